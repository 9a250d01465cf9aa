package sign_test

import (
	"math"
	"strings"
	"testing"
	"unicode/utf8"

	"parclose/api"
	"parclose/sign"
)

func at(level, cats int) api.Label { return api.Label{Level: level, Cats: cats} }

// A label's text as the chapter's words have it, so that Print is not held against itself.
func textOf(l api.Label) string {
	runes := []rune{rune('0' + l.Level), '{'}
	for n := range 16 {
		if l.Cats/(1<<n)%2 == 1 {
			runes = append(runes, rune(0x3b1+n))
		}
	}
	return string(append(runes, '}'))
}

func refused(t *testing.T, s string) {
	t.Helper()
	if l, e := sign.Read(s); l != (api.Label{}) || e != api.ErrLabel {
		t.Errorf("Read(%q) is %v, %d", s, l, e)
	}
}

// P2.1
func TestCatOfEverySign(t *testing.T) {
	signs := []rune{'α', 'β', 'γ', 'δ', 'ε', 'ζ', 'η', 'θ', 'ι', 'κ', 'λ', 'μ', 'ν', 'ξ', 'ο', 'π'}
	for want, r := range signs {
		if n := sign.Cat(r); n != want {
			t.Errorf("Cat(%q) is %d", r, n)
		}
	}
}

// P2.1
func TestCatOfEveryRune(t *testing.T) {
	for r := rune(-2000); r <= utf8.MaxRune+2000; r++ {
		want := -1
		if 0x3b1 <= r && r <= 0x3c0 {
			want = int(r) - 0x3b1
		}
		if n := sign.Cat(r); n != want {
			t.Fatalf("Cat(%#x) is %d", r, n)
		}
	}
}

// P2.1
func TestCatOfNumbersThatAreNoRunes(t *testing.T) {
	for _, r := range []rune{math.MinInt32, math.MinInt32 + 0x3b1, math.MinInt32 + 0x3b5, -0x3b1, math.MaxInt32, 0x3b1 + 1<<16, 0x3b1 + 1<<24} {
		if n := sign.Cat(r); n != -1 {
			t.Errorf("Cat(%#x) is %d", r, n)
		}
	}
}

// P2.1: the chapter's examples.
func TestExamples(t *testing.T) {
	if s, e := sign.Print(at(3, 5)); s != "3{\u03b1\u03b3}" || e != api.OK {
		t.Errorf("Print is %q, %d", s, e)
	}
	if l, e := sign.Read("3{}"); l != at(3, 0) || e != api.OK {
		t.Errorf("Read is %v, %d", l, e)
	}
	refused(t, "3{\u03b3\u03b1}")
	refused(t, "3{\u03b1\u03b1}")
}

// P2.1
func TestEveryLabelIsPrintedAndRead(t *testing.T) {
	for level := range 8 {
		for cats := range 1 << 16 {
			l := at(level, cats)
			s, e := sign.Print(l)
			if s != textOf(l) || e != api.OK {
				t.Fatalf("Print(%v) is %q, %d", l, s, e)
			}
			if x, e := sign.Read(textOf(l)); x != l || e != api.OK {
				t.Fatalf("Read(%q) is %v, %d", s, x, e)
			}
		}
	}
}

// P2.1
func TestPrintOfLabelsThatMayNotBe(t *testing.T) {
	for _, l := range []api.Label{
		at(8, 0), at(9, 1), at(10, 0), at(-1, 0), at(math.MaxInt, 0), at(math.MinInt, 0),
		at(0, 1<<16), at(0, 1<<16+1), at(7, -1), at(0, math.MaxInt), at(0, math.MinInt), at(-1, -1),
	} {
		if s, e := sign.Print(l); s != "" || e != api.ErrLabel {
			t.Errorf("Print(%v) is %q, %d", l, s, e)
		}
	}
}

// P2.1
func TestReadOfTextsThatAreNone(t *testing.T) {
	for _, s := range []string{
		"", "3", "{", "}", "{}", "3{", "3}", "3}{", "{3}", "3{}}", "3{{}", "3{}{}", "3{}3{}", "33{}", "03{}", "3{3}",
		"8{}", "9{}", "10{}", "-1{}", "+1{}", "/{}", ":{}", "a{}", "α{}", "α", "{α}", "α3{}", "3α{}", "3{}α", "3α", "3{α",
		" 3{}", "3 {}", "3{ }", "3{} ", "3{}\n", "3{}\x00", "\x003{}", "3{α β}", "3{α,β}", "3{a}", "3{Α}", "3(α)", "3[α]",
		"3{γα}", "3{βα}", "3{αα}", "3{αβα}", "3{αββ}", "3{ππ}", "3{αγβ}", "3{πο}",
		"3{ρ}", "3{ω}", "3{ΰ}", "3{αρ}", "3{ρα}", "3{α\ufffd}", "\u0663{}", "\uff13{}", "3｛｝",
	} {
		refused(t, s)
	}
}

// P2.1: a byte that belongs to no rune is no sign at all, wherever it stands.
func TestReadOfBytesThatAreNoRune(t *testing.T) {
	for _, s := range []string{
		"\xff", "\xff{}", "\xb1", "3\xff{}", "3{\xff}", "3{}\xff", "\xff3{}", "3{\xce}", "3{\xb1}", "3{α\xff}", "3{α\xce}", "3{\xceα}", "3{α\xb1}",
		"3{\xb1\xce}", "3{\xe0\x8e\xb1}", "3{\xf0\x80\x8e\xb1}", "\xb3{}", "\xc0\xb3{}", "3{\xed\xa0\x80}", "3\xc1\xbb}", "3{\xc1\xbd",
	} {
		refused(t, s)
	}
}

// P2.1: no text reads but a label's own, so every change of one byte is refused or is another label's text.
func TestReadOfTextsWithOneByteChanged(t *testing.T) {
	for _, l := range []api.Label{at(0, 0), at(3, 5), at(7, 1<<15|1), at(5, 0x8421)} {
		text := textOf(l)
		for i := range len(text) {
			for b := range 256 {
				s := text[:i] + string([]byte{byte(b)}) + text[i+1:]
				x, e := sign.Read(s)
				if e == api.OK && textOf(x) != s || e != api.OK && (e != api.ErrLabel || x != (api.Label{})) {
					t.Errorf("Read(%q) is %v, %d", s, x, e)
				}
			}
			refused(t, text[:i])
			refused(t, text[i+1:])
			refused(t, text[:i]+"}"+text[i:])
		}
	}
}

// P2.1
func TestReadOfALongText(t *testing.T) {
	refused(t, "3{"+strings.Repeat("α", 1<<20)+"}")
	refused(t, strings.Repeat("3{}", 1<<20))
}

// P2.2
func TestEveryRuneOfANameAlone(t *testing.T) {
	for r := rune(0); r <= utf8.MaxRune; r++ {
		want := 'a' <= r && r <= 'z' || 0x3b1 <= r && r <= 0x3c9
		if utf8.ValidRune(r) && sign.Name(string(r)) != want {
			t.Fatalf("Name(%q) is %v", r, !want)
		}
	}
}

// P2.2
func TestNames(t *testing.T) {
	for _, s := range []string{
		"a", "z", "low", "high", "α", "π", "ρ", "ς", "ω", "aα", "αa", "zωaα", "abcdefghijkl", "αβγδεζηθικλμ", "ωωωωωωωωωωωω", "aaaaaaωωωωωω",
	} {
		if !sign.Name(s) {
			t.Errorf("Name(%q) is false", s)
		}
	}
}

// P2.2
func TestNamesByLength(t *testing.T) {
	for n := range 40 {
		want := n >= 1 && n <= 12
		for _, s := range []string{strings.Repeat("a", n), strings.Repeat("ω", n), strings.Repeat("aω", n)[:n/2*3+n%2]} {
			if sign.Name(s) != want {
				t.Errorf("Name(%q) is %v", s, !want)
			}
		}
	}
	if sign.Name(strings.Repeat("a", 1<<20)) {
		t.Error("a long text is a name")
	}
	// 256 and 2^16 more runes than a name may have, lest the count be kept in a small number.
	if sign.Name(strings.Repeat("a", 256+5)) || sign.Name(strings.Repeat("a", 1<<16+5)) {
		t.Error("a text whose length wraps round is a name")
	}
}

// P2.2
func TestTextsThatAreNoNames(t *testing.T) {
	for _, s := range []string{
		"", " ", "A", "Z", "`", "{", "0", "_", "-", "a1", "1a", "a b", " a", "a ", "a\n", "a\x00", "aB", "Α", "Ω", "αΑ", "ΰ", "ϊ", "αϊ", "ά", "é", "ａ", "a\u0301", "\ufffd", "а", "3{}",
	} {
		if sign.Name(s) {
			t.Errorf("Name(%q) is true", s)
		}
	}
}

// P2.2: a byte that belongs to no rune is no sign at all, wherever it stands.
func TestBytesThatAreNoRuneAreNoNames(t *testing.T) {
	for b := 0x80; b < 0x100; b++ {
		alone := string([]byte{byte(b)})
		for _, s := range []string{alone, "a" + alone, alone + "a", "ab" + alone + "cd", "abcdefghijkl" + alone} {
			if sign.Name(s) {
				t.Errorf("Name(%q) is true", s)
			}
		}
	}
	for _, s := range []string{"\xce", "α\xce", "\xceα", "\xc1\xa1", "\xe0\x8e\xb1", "\xed\xa0\x80", "\xf4\x90\x80\x80"} {
		if sign.Name(s) {
			t.Errorf("Name(%q) is true", s)
		}
	}
}
