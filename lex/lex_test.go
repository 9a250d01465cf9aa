package lex_test

import (
	"slices"
	"strings"
	"testing"
	"unicode/utf8"

	"parclose/api"
	"parclose/lex"
)

func word(text string, line, col int) api.Word {
	return api.Word{Text: text, Line: line, Col: col}
}

func split(t *testing.T, s string, want ...api.Word) {
	t.Helper()
	if list, e, line, col := lex.Words(s); !slices.Equal(list, want) || e != api.OK || line != 0 || col != 0 {
		t.Errorf("Words(%q) is %v, %d, %d, %d", s, list, e, line, col)
	}
}

func refused(t *testing.T, s string, want api.Errno, wantLine, wantCol int) {
	t.Helper()
	if list, e, line, col := lex.Words(s); len(list) != 0 || e != want || line != wantLine || col != wantCol {
		t.Errorf("Words(%q) is %v, %d, %d, %d", s, list, e, line, col)
	}
}

// P3.1: the chapter's examples.
func TestExamples(t *testing.T) {
	split(t, "a  bc#d\n e", word("a", 1, 1), word("bc", 1, 4), word("e", 2, 2))
	refused(t, "\t", api.ErrText, 1, 1)
}

// P3.1
func TestTextsWithoutWords(t *testing.T) {
	for _, s := range []string{"", " ", "     ", "\n", "\n\n\n", " \n \n", "#", "##", "#a", " # a b", "#\n#", "# a\n  # b\n\n", "# α β # γ"} {
		split(t, s)
	}
}

// P3.1
func TestWordsOfOneLine(t *testing.T) {
	split(t, "a", word("a", 1, 1))
	split(t, "abc", word("abc", 1, 1))
	split(t, " a", word("a", 1, 2))
	split(t, "a ", word("a", 1, 1))
	split(t, "   a   ", word("a", 1, 4))
	split(t, "a b", word("a", 1, 1), word("b", 1, 3))
	split(t, "domain low 3{αγ} 8 0 16", word("domain", 1, 1), word("low", 1, 8), word("3{αγ}", 1, 12), word("8", 1, 18), word("0", 1, 20), word("16", 1, 22))
	split(t, "a a a", word("a", 1, 1), word("a", 1, 3), word("a", 1, 5))
}

// P3.1
func TestWordsOfManyLines(t *testing.T) {
	split(t, "a\nb", word("a", 1, 1), word("b", 2, 1))
	split(t, "a\n", word("a", 1, 1))
	split(t, "\na", word("a", 2, 1))
	split(t, "\n\n  a b\n\n c\n", word("a", 3, 3), word("b", 3, 5), word("c", 5, 2))
	split(t, "a \n b", word("a", 1, 1), word("b", 2, 2))
	split(t, "abc def\nghi", word("abc", 1, 1), word("def", 1, 5), word("ghi", 2, 1))
}

// P3.1
func TestRemarks(t *testing.T) {
	split(t, "a#", word("a", 1, 1))
	split(t, "a #b c", word("a", 1, 1))
	split(t, "a#b#c d", word("a", 1, 1))
	split(t, "# a\nb", word("b", 2, 1))
	split(t, "#\na", word("a", 2, 1))
	split(t, "a # b\nc # d\n # e\nf", word("a", 1, 1), word("c", 2, 1), word("f", 4, 1))
	split(t, "a#b\nc#d", word("a", 1, 1), word("c", 2, 1))
	split(t, "α#β\nγ", word("α", 1, 1), word("γ", 2, 1))
}

// P3.1: a column is a rune, however many bytes it has.
func TestColumnsAreRunes(t *testing.T) {
	split(t, "αβ γ\n", word("αβ", 1, 1), word("γ", 1, 4))
	split(t, "é € 𝄞 x", word("é", 1, 1), word("€", 1, 3), word("𝄞", 1, 5), word("x", 1, 7))
	split(t, "a𝄞b€c é\n€ é", word("a𝄞b€c", 1, 1), word("é", 1, 7), word("€", 2, 1), word("é", 2, 3))
	// A mark that is set upon the rune ahead of it is a rune all the same.
	split(t, "e\u0301 x", word("e\u0301", 1, 1), word("x", 1, 4))
}

// P3.1: each rune alone, between two others, and in a remark.
func TestEveryRune(t *testing.T) {
	for r := rune(0); r <= utf8.MaxRune; r++ {
		if !utf8.ValidRune(r) {
			continue
		}
		text := "a" + string(r) + "b"
		remark := "# " + string(r) + "\nc"
		switch {
		case r == '\n':
			split(t, text, word("a", 1, 1), word("b", 2, 1))
			split(t, remark, word("c", 3, 1))
		case r < 32 || r == 127:
			refused(t, text, api.ErrText, 1, 2)
			refused(t, string(r), api.ErrText, 1, 1)
			refused(t, remark, api.ErrText, 1, 3)
		case r == ' ':
			split(t, text, word("a", 1, 1), word("b", 1, 3))
			split(t, remark, word("c", 2, 1))
		case r == '#':
			split(t, text, word("a", 1, 1))
			split(t, remark, word("c", 2, 1))
		default:
			split(t, text, word(text, 1, 1))
			split(t, string(r), word(string(r), 1, 1))
			split(t, remark, word("c", 2, 1))
		}
		if t.Failed() {
			t.Fatalf("rune %#x", r)
		}
	}
}

// P3.1: what looks like a blank, an end of a line or a remark in another alphabet is a rune of a word.
func TestOnlyByte32IsABlank(t *testing.T) {
	for _, s := range []string{"a\u00a0b", "a\u0085b", "a\u2028b", "a\u2029b", "a\u3000b", "a\u200bb", "\ufeffa", "a\uff03b", "a\u0080b", "a\u009fb"} {
		split(t, s, word(s, 1, 1))
	}
}

// P3.1: the rune that stands for a byte without one is a rune like others, if it is there itself.
func TestRuneFFFDMayStand(t *testing.T) {
	split(t, "\ufffd x", word("\ufffd", 1, 1), word("x", 1, 3))
	split(t, "a\ufffdb # \ufffd\n\ufffd", word("a\ufffdb", 1, 1), word("\ufffd", 2, 1))
	refused(t, "\ufffd\xff", api.ErrText, 1, 2)
	refused(t, "\ufffd \ufffd\xef\xbf", api.ErrText, 1, 4)
	refused(t, "\xef\ufffd", api.ErrText, 1, 1)
}

// P3.1
func TestBytesThatAreNoRune(t *testing.T) {
	for b := 0x80; b < 0x100; b++ {
		alone := string([]byte{byte(b)})
		refused(t, alone, api.ErrText, 1, 1)
		refused(t, "ab\nα "+alone, api.ErrText, 2, 3)
		refused(t, "ab\nα "+alone+"c d\n", api.ErrText, 2, 3)
		refused(t, "αβ # "+alone, api.ErrText, 1, 6)
		refused(t, alone+"\n"+alone, api.ErrText, 1, 1)
	}
	for _, s := range []string{
		"\xce", "\xce ", "\xceα", "\xb1\xce", "\xe2\x82", "\xf0\x9d\x84", "\xc0\x80", "\xc0\x8a", "\xc0\xa0", "\xc1\xa1", "\xe0\x80\xa0", "\xe0\x8e\xb1", "\xf0\x80\x8e\xb1",
		"\xed\xa0\x80", "\xed\xbf\xbf", "\xf4\x90\x80\x80", "\xf8\x88\x80\x80\x80", "\xfe\xff",
	} {
		refused(t, s, api.ErrText, 1, 1)
		refused(t, "α"+s, api.ErrText, 1, 2)
		refused(t, "# α\n #"+s+"\n", api.ErrText, 2, 3)
	}
}

// P3.1: of several things that may not be the first one is told, whatever is wrong with it.
func TestTheFirstThingThatMayNotBe(t *testing.T) {
	refused(t, "a\r\n", api.ErrText, 1, 2)
	refused(t, "ab\tc\x00\xff", api.ErrText, 1, 3)
	refused(t, "ab\xffc\td", api.ErrText, 1, 3)
	refused(t, "a\nb\n\x7f\n\xff", api.ErrText, 3, 1)
	refused(t, "\n\n  # αβ\x1f\t", api.ErrText, 3, 7)
	refused(t, "word word\nword # remark\n\x00", api.ErrText, 3, 1)
	refused(t, "word word\nword # remark \x00", api.ErrText, 2, 15)
	refused(t, "€€\t€", api.ErrText, 1, 3)
}

// P3.1
func TestLengths(t *testing.T) {
	for _, n := range []int{1, 4095, 4096} {
		text := strings.Repeat("a", n)
		split(t, text, word(text, 1, 1))
	}
	greek := strings.Repeat("α", 2048)
	split(t, greek, word(greek, 1, 1))
	split(t, strings.Repeat(" ", 4095)+"a", word("a", 1, 4096))
	split(t, strings.Repeat("\n", 4095)+"a", word("a", 4096, 1))
	split(t, "#"+strings.Repeat("a", 4095))
	refused(t, strings.Repeat("a", 4095)+"\t", api.ErrText, 1, 4096)
	refused(t, strings.Repeat("\n", 4095)+"\xff", api.ErrText, 4096, 1)
}

// P3.1: bytes count, not runes or words; and a text that is too long is told ahead of what may not be.
func TestTextsThatAreTooLong(t *testing.T) {
	for _, s := range []string{
		strings.Repeat("a", 4097), strings.Repeat(" ", 4097), strings.Repeat("\n", 4097), "#" + strings.Repeat("a", 4096), strings.Repeat("α", 2048) + "a", strings.Repeat("€", 1366),
		strings.Repeat("\t", 4097), "\xff" + strings.Repeat("a", 4096), strings.Repeat("a", 4096) + "\xff", strings.Repeat("a ", 1<<20), strings.Repeat("a", 1<<16+5),
	} {
		refused(t, s, api.ErrOver, 0, 0)
	}
}

// P3.1
func TestAsManyWordsAsCanBe(t *testing.T) {
	list, e, line, col := lex.Words(strings.Repeat("a\n", 2048))
	if len(list) != 2048 || e != api.OK || line != 0 || col != 0 {
		t.Fatalf("Words is %d words, %d, %d, %d", len(list), e, line, col)
	}
	for i, w := range list {
		if w != word("a", i+1, 1) {
			t.Errorf("word %d is %v", i, w)
		}
	}
}

// Words by splitting lines and blanks, to be held against the walk by runes; for texts in which nothing is wrong.
func wordsByLines(s string) []api.Word {
	var list []api.Word
	for n, line := range strings.Split(s, "\n") {
		ahead, _, _ := strings.Cut(line, "#")
		col := 1
		for piece := range strings.SplitSeq(ahead, " ") {
			if piece != "" {
				list = append(list, word(piece, n+1, col))
			}
			col += utf8.RuneCountInString(piece) + 1
		}
	}
	return list
}

// P3.1: all texts of up to six of these signs.
func TestAllShortTexts(t *testing.T) {
	signs := []string{"a", "α", " ", "#", "\n"}
	texts := []string{""}
	for range 7 {
		for _, s := range texts {
			split(t, s, wordsByLines(s)...)
			// Wherever the text ends, a thing that may not be stands behind it.
			last := s[strings.LastIndex(s, "\n")+1:]
			refused(t, s+"\x01", api.ErrText, strings.Count(s, "\n")+1, utf8.RuneCountInString(last)+1)
		}
		var longer []string
		for _, s := range texts {
			for _, sign := range signs {
				longer = append(longer, s+sign)
			}
		}
		texts = longer
	}
}

// R4, R5: an answer shares no memory with another one.
func TestAnswersAreNewMemory(t *testing.T) {
	first, _, _, _ := lex.Words("a b c")
	second, _, _, _ := lex.Words("a b c")
	for i := range first {
		first[i] = api.Word{}
	}
	_ = append(first[:1], word("x", 9, 9))
	if !slices.Equal(second, []api.Word{word("a", 1, 1), word("b", 1, 3), word("c", 1, 5)}) {
		t.Errorf("the second answer is %v", second)
	}
	split(t, "a b c", word("a", 1, 1), word("b", 1, 3), word("c", 1, 5))
}
