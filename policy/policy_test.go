package policy_test

import (
	"math"
	"regexp"
	"slices"
	"strconv"
	"strings"
	"testing"

	"parclose/api"
	"parclose/policy"
)

// Its lists have spare room, so that a call that writes there is noticed.
func usual() api.Policy {
	p := api.Policy{
		Domains: make([]api.Domain, 0, 20),
		Slots:   make([]api.Slot, 0, 20),
		Links:   make([]api.Link, 0, 20),
	}
	p.Domains = append(p.Domains,
		api.Domain{Name: "low", Label: api.Label{Level: 0, Cats: 0}, Tasks: 1, Objects: 0, Ring: 1},
		api.Domain{Name: "mid", Label: api.Label{Level: 3, Cats: 1}, Tasks: 2, Objects: 3, Ring: 4},
		api.Domain{Name: "ω", Label: api.Label{Level: 7, Cats: 1<<16 - 1}, Tasks: 8, Objects: 8, Ring: 16})
	p.Slots = append(p.Slots, api.Slot{Dom: 2, Len: 16}, api.Slot{Dom: 0, Len: 1}, api.Slot{Dom: 1, Len: 2}, api.Slot{Dom: 0, Len: 3})
	p.Links = append(p.Links, api.Link{Kind: api.Pump, From: 0, To: 1, Size: 8}, api.Link{Kind: api.Cell, From: 1, To: 2, Size: 4}, api.Link{Kind: api.Pump, From: 0, To: 2, Size: 1})
	return p
}

const usualText = "domain low 0{} 1 0 1\ndomain mid 3{α} 2 3 4\ndomain ω 7{αβγδεζηθικλμνξοπ} 8 8 16\n" +
	"slot ω 16\nslot low 1\nslot mid 2\nslot low 3\n" +
	"pump low mid 8\ncell mid ω 4\npump low ω 1\n"

func same(a, b api.Policy) bool {
	return slices.Equal(a.Domains, b.Domains) && slices.Equal(a.Slots, b.Slots) && slices.Equal(a.Links, b.Links)
}

func empty(p api.Policy) bool { return same(p, api.Policy{}) }

// As many domains as asked for, all of one label, each with a slot.
func many(domains int) api.Policy {
	p := api.Policy{}
	for n := range domains {
		p.Domains = append(p.Domains, api.Domain{Name: string(rune('a'+n%26)) + strings.Repeat("a", n/26), Tasks: 1, Ring: 1})
		p.Slots = append(p.Slots, api.Slot{Dom: n, Len: 1})
	}
	return p
}

func checked(t *testing.T, what string, p api.Policy, want api.Errno) {
	t.Helper()
	if e := policy.Check(p); e != want {
		t.Errorf("%s: Check is %d, not %d", what, e, want)
	}
	text, e := policy.Print(p)
	if e != want || (text == "") != (want != api.OK) {
		t.Errorf("%s: Print is %q, %d", what, text, e)
	}
}

func parsed(t *testing.T, s string, want api.Policy) {
	t.Helper()
	if p, line, e := policy.Parse(s); !same(p, want) || line != 0 || e != api.OK {
		t.Errorf("Parse(%q) is %v, %d, %d", s, p, line, e)
	}
}

func refused(t *testing.T, s string, wantLine int, want api.Errno) {
	t.Helper()
	if p, line, e := policy.Parse(s); !empty(p) || line != wantLine || e != want {
		t.Errorf("Parse(%q) is %v, %d, %d; not %d, %d", s, p, line, e, wantLine, want)
	}
}

// P4.1, P4.2, P4.3: the chapter's examples.
func TestExamples(t *testing.T) {
	ahead := "domain a 0{} 1 0 1\ndomain b 1{} 2 3 4\nslot b 2\nslot a 1\n"
	want := api.Policy{
		Domains: []api.Domain{{Name: "a", Tasks: 1, Ring: 1}, {Name: "b", Label: api.Label{Level: 1}, Tasks: 2, Objects: 3, Ring: 4}},
		Slots:   []api.Slot{{Dom: 1, Len: 2}, {Dom: 0, Len: 1}},
		Links:   []api.Link{{Kind: api.Pump, From: 0, To: 1, Size: 3}},
	}
	parsed(t, ahead+"pump a b 3", want)
	refused(t, ahead+"pump b a 3", 0, api.ErrDenied)
	refused(t, "slot c 1\n"+ahead+"pump a b 3", 1, api.ErrName)
}

// P4.1
func TestPoliciesThatMayBe(t *testing.T) {
	checked(t, "usual", usual(), api.OK)
	for n := 1; n <= 8; n++ {
		checked(t, strconv.Itoa(n)+" domains", many(n), api.OK)
	}
	for n := 1; n <= 16; n++ {
		p := many(1)
		p.Slots = slices.Repeat(p.Slots, n)
		checked(t, strconv.Itoa(n)+" slots", p, api.OK)
	}
	for n := range 9 {
		p := usual()
		p.Links = slices.Repeat(p.Links[:1], n)
		checked(t, strconv.Itoa(n)+" links", p, api.OK)
	}
}

// P4.1: labels that are one lead to each other, both ways.
func TestLinksBetweenDomainsOfOneLabel(t *testing.T) {
	p := many(2)
	p.Links = []api.Link{{Kind: api.Cell, From: 0, To: 1, Size: 1}, {Kind: api.Cell, From: 1, To: 0, Size: 1}}
	checked(t, "both ways", p, api.OK)
}

// P4.1
func TestHowManyThereMayBe(t *testing.T) {
	checked(t, "nothing", api.Policy{}, api.ErrArg)
	checked(t, "empty lists", api.Policy{Domains: []api.Domain{}, Slots: []api.Slot{}, Links: []api.Link{}}, api.ErrArg)
	checked(t, "9 domains", many(9), api.ErrArg)
	checked(t, "1000 domains", api.Policy{Domains: make([]api.Domain, 1000), Slots: make([]api.Slot, 1)}, api.ErrArg)
	p := usual()
	p.Domains = nil
	checked(t, "no domain", p, api.ErrArg)
	p = usual()
	p.Slots = nil
	checked(t, "no slot", p, api.ErrArg)
	p = many(1)
	p.Slots = slices.Repeat(p.Slots, 17)
	checked(t, "17 slots", p, api.ErrArg)
	p = usual()
	p.Links = slices.Repeat(p.Links[:1], 9)
	checked(t, "9 links", p, api.ErrArg)
}

// P4.1: each number at both sides of its limits, and at the ends of all numbers.
func TestLimitsOfNumbers(t *testing.T) {
	for _, c := range []struct {
		what      string
		place     func(p *api.Policy) *int
		low, high int
		e         api.Errno
	}{
		{"Level", func(p *api.Policy) *int { return &p.Domains[0].Label.Level }, 0, 7, api.ErrLabel},
		{"Cats", func(p *api.Policy) *int { return &p.Domains[0].Label.Cats }, 0, 1<<16 - 1, api.ErrLabel},
		{"Tasks", func(p *api.Policy) *int { return &p.Domains[1].Tasks }, 1, 8, api.ErrArg},
		{"Objects", func(p *api.Policy) *int { return &p.Domains[1].Objects }, 0, 8, api.ErrArg},
		{"Ring", func(p *api.Policy) *int { return &p.Domains[1].Ring }, 1, 16, api.ErrArg},
		{"Dom", func(p *api.Policy) *int { return &p.Slots[1].Dom }, 0, 2, api.ErrArg},
		{"Len", func(p *api.Policy) *int { return &p.Slots[1].Len }, 1, 16, api.ErrArg},
		{"a Pump's Size", func(p *api.Policy) *int { return &p.Links[0].Size }, 1, 8, api.ErrArg},
		{"a Cell's Size", func(p *api.Policy) *int { return &p.Links[1].Size }, 1, 4, api.ErrArg},
	} {
		for _, n := range []int{math.MinInt, -1, 0, 1, 2, c.high - 1, c.high, c.high + 1, 99, 1 << 32, 1<<32 + 1, math.MaxInt} {
			p := usual()
			p.Links = p.Links[:2]
			if c.e == api.ErrLabel {
				p.Links = nil
			}
			*c.place(&p) = n
			want := c.e
			if c.low <= n && n <= c.high {
				want = api.OK
			}
			checked(t, c.what+" "+strconv.Itoa(n), p, want)
		}
	}
}

// P4.1
func TestNamesOfDomains(t *testing.T) {
	for _, name := range []string{"", "Low", "low1", "a b", "a\n", "abcdefghijklm", "αβγδεζηθικλμν", "Ω", "#", "a\xff", "\xce", "low", "mid"} {
		p := usual()
		p.Domains[2].Name = name
		checked(t, name, p, api.ErrName)
	}
	for _, name := range []string{"lo", "loww", "abcdefghijkl", "αβγδεζηθικλμ", "domain", "slot", "cell", "pump"} {
		p := usual()
		p.Domains[2].Name = name
		checked(t, name, p, api.OK)
	}
}

// P4.1
func TestEveryDomainNeedsASlot(t *testing.T) {
	for missing := range 8 {
		p := many(8)
		p.Slots[missing].Dom = (missing + 1) % 8
		checked(t, "no slot of "+strconv.Itoa(missing), p, api.ErrSlot)
	}
}

// P4.1
func TestKindsAndEndsOfLinks(t *testing.T) {
	for _, kind := range []int{math.MinInt, -1, 0, 3, 4, 1<<32 + 1, math.MaxInt} {
		p := usual()
		p.Links[1].Kind = kind
		checked(t, "Kind "+strconv.Itoa(kind), p, api.ErrArg)
	}
	for from := range 3 {
		for to := range 3 {
			p := usual()
			p.Links[2].From, p.Links[2].To = from, to
			want := api.OK
			if from == to {
				want = api.ErrArg
			} else if from > to {
				want = api.ErrDenied
			}
			checked(t, "from "+strconv.Itoa(from)+" to "+strconv.Itoa(to), p, want)
		}
	}
	for _, end := range []int{math.MinInt, -1, 3, 8, math.MaxInt} {
		p := usual()
		p.Links[0].From = end
		checked(t, "From "+strconv.Itoa(end), p, api.ErrArg)
		p = usual()
		p.Links[0].To = end
		checked(t, "To "+strconv.Itoa(end), p, api.ErrArg)
		p.Links[0].From = end
		checked(t, "both "+strconv.Itoa(end), p, api.ErrArg)
	}
}

// P4.1: neither a level nor categories alone lead up.
func TestLabelsOfLinks(t *testing.T) {
	for _, c := range []struct {
		from, to api.Label
		want     api.Errno
	}{
		{api.Label{Level: 2, Cats: 3}, api.Label{Level: 2, Cats: 3}, api.OK},
		{api.Label{Level: 2, Cats: 1}, api.Label{Level: 3, Cats: 3}, api.OK},
		{api.Label{Level: 2, Cats: 4}, api.Label{Level: 3, Cats: 3}, api.ErrDenied},
		{api.Label{Level: 4, Cats: 1}, api.Label{Level: 3, Cats: 3}, api.ErrDenied},
		{api.Label{Level: 4, Cats: 4}, api.Label{Level: 3, Cats: 3}, api.ErrDenied},
	} {
		p := many(2)
		p.Domains[0].Label, p.Domains[1].Label = c.from, c.to
		p.Links = []api.Link{{Kind: api.Pump, From: 0, To: 1, Size: 1}}
		checked(t, "labels", p, c.want)
	}
}

type fault struct {
	what string
	turn func(p *api.Policy)
	e    api.Errno
}

// Faults in the order in which the chapter tells them; each two of them may stand in one policy, but those of one number.
func faultsInOrder() []fault {
	return []fault{
		{"9 links", func(p *api.Policy) { p.Links = append(p.Links, slices.Repeat(p.Links[:1], 6)...) }, api.ErrArg},
		{"first name", func(p *api.Policy) { p.Domains[0].Name = "Low" }, api.ErrName},
		{"first label", func(p *api.Policy) { p.Domains[0].Label.Level = 8 }, api.ErrLabel},
		{"first tasks", func(p *api.Policy) { p.Domains[0].Tasks = 9 }, api.ErrArg},
		{"second name", func(p *api.Policy) { p.Domains[1].Name = p.Domains[0].Name }, api.ErrName},
		{"second label", func(p *api.Policy) { p.Domains[1].Label.Cats = -1 }, api.ErrLabel},
		{"second ring", func(p *api.Policy) { p.Domains[1].Ring = 0 }, api.ErrArg},
		{"third name", func(p *api.Policy) { p.Domains[2].Name = "" }, api.ErrName},
		{"third label", func(p *api.Policy) { p.Domains[2].Label.Level = -1 }, api.ErrLabel},
		{"third objects", func(p *api.Policy) { p.Domains[2].Objects = 9 }, api.ErrArg},
		{"first slot", func(p *api.Policy) { p.Slots[0].Len = 0 }, api.ErrArg},
		{"last slot", func(p *api.Policy) { p.Slots[3].Dom = -1 }, api.ErrArg},
		{"no slot", func(p *api.Policy) { p.Slots[2].Dom = 2 }, api.ErrSlot},
		{"first link", func(p *api.Policy) { p.Links[0].Kind = 0 }, api.ErrArg},
		{"first link's way", func(p *api.Policy) { p.Links[0].From, p.Links[0].To = 1, 0 }, api.ErrDenied},
		{"second link", func(p *api.Policy) { p.Links[1].Size = 5 }, api.ErrArg},
		{"second link's way", func(p *api.Policy) { p.Links[1].From, p.Links[1].To = 2, 0 }, api.ErrDenied},
		{"third link", func(p *api.Policy) { p.Links[2].Size = 0 }, api.ErrArg},
	}
}

// P4.1 with R2
func TestTheFirstOfTwoFaults(t *testing.T) {
	list := faultsInOrder()
	for i, a := range list {
		p := usual()
		a.turn(&p)
		checked(t, a.what, p, a.e)
		for _, b := range list[i+1:] {
			p := usual()
			b.turn(&p)
			a.turn(&p)
			checked(t, a.what+" and "+b.what, p, a.e)
		}
	}
}

// P4.3
func TestPrint(t *testing.T) {
	if s, e := policy.Print(usual()); s != usualText || e != api.OK {
		t.Errorf("Print is %q, %d", s, e)
	}
	p := many(1)
	if s, e := policy.Print(p); s != "domain a 0{} 1 0 1\nslot a 1\n" || e != api.OK {
		t.Errorf("Print is %q, %d", s, e)
	}
}

// P4.2
func TestParse(t *testing.T) {
	parsed(t, usualText, usual())
	parsed(t, strings.TrimSuffix(usualText, "\n"), usual())
	parsed(t, "\n\n# a remark\n"+usualText+"   \n#", usual())
	parsed(t, strings.ReplaceAll(usualText, " ", "   "), usual())
	parsed(t, " "+strings.ReplaceAll(usualText, "\n", " # slot low\n\n  "), usual())
	parsed(t, strings.ReplaceAll(usualText, "\n", "#\n"), usual())
}

// P4.2: lines of the three kinds may stand among each other, and each kind keeps its order.
func TestLinesAmongEachOther(t *testing.T) {
	lines := strings.SplitAfter(usualText, "\n")
	var text strings.Builder
	for _, n := range []int{0, 4, 1, 7, 2, 3, 5, 8, 6, 9} {
		text.WriteString(lines[n])
	}
	want := usual()
	want.Slots = []api.Slot{{Dom: 0, Len: 1}, {Dom: 2, Len: 16}, {Dom: 1, Len: 2}, {Dom: 0, Len: 3}}
	parsed(t, text.String(), want)
}

// P4.2
func TestWordsMayBeNames(t *testing.T) {
	parsed(t, "domain slot 0{} 1 0 1\ndomain domain 0{} 1 0 1\nslot slot 1\nslot domain 1\ncell domain slot 1\n", api.Policy{
		Domains: []api.Domain{{Name: "slot", Tasks: 1, Ring: 1}, {Name: "domain", Tasks: 1, Ring: 1}},
		Slots:   []api.Slot{{Dom: 0, Len: 1}, {Dom: 1, Len: 1}},
		Links:   []api.Link{{Kind: api.Cell, From: 1, To: 0, Size: 1}},
	})
}

// P4.2: what the words of a text are is told ahead of all lines.
func TestTextsThatHaveNoWords(t *testing.T) {
	refused(t, strings.Repeat("a", 4097), 0, api.ErrOver)
	refused(t, usualText+strings.Repeat("\n", 4097-len(usualText)), 0, api.ErrOver)
	parsed(t, usualText+strings.Repeat("\n", 4096-len(usualText)), usual())
	refused(t, "\t", 1, api.ErrText)
	refused(t, "nothing\n"+usualText+"# \x7f", 12, api.ErrText)
	refused(t, "slot c 1\n\xff\n", 2, api.ErrText)
	refused(t, "\n\n\r\n", 3, api.ErrText)
}

// P4.2: without lines there is nothing wrong in one, but a policy may not be empty.
func TestTextsWithoutLines(t *testing.T) {
	for _, s := range []string{"", " ", "\n\n", "# domain a 0{} 1 0 1"} {
		refused(t, s, 0, api.ErrArg)
	}
}

// P4.2: a wrong line is told wherever it stands, ahead of the later ones and of what Check says.
func TestTheFirstWrongLine(t *testing.T) {
	refused(t, "lock\nslot c 1", 1, api.ErrText)
	refused(t, "slot c 1\nlock", 1, api.ErrName)
	refused(t, "\n# a\ndomain a 9{} 1 0 1\nlock", 3, api.ErrLabel)
	refused(t, usualText+"slot low 17\nslot low 017", 12, api.ErrText)
	refused(t, usualText+"\n\nslot low 17\n", 0, api.ErrArg)
	refused(t, strings.Repeat("lock\n", 500), 1, api.ErrText)
	// More domains than may be are gone through to the last line all the same.
	text, _ := manyText(40)
	refused(t, text, 0, api.ErrArg)
	refused(t, text+"slot nobody 1", 81, api.ErrName)
	refused(t, text+"domain a 0{} 1 0 1", 81, api.ErrName)
}

func manyText(domains int) (string, api.Policy) {
	p := many(domains)
	var text strings.Builder
	for _, d := range p.Domains {
		text.WriteString("domain " + d.Name + " 0{} 1 0 1\n")
	}
	for _, s := range p.Slots {
		text.WriteString("slot " + p.Domains[s.Dom].Name + " 1\n")
	}
	return text.String(), p
}

// P4.2
func TestAsManyDomainsAsMayBe(t *testing.T) {
	text, p := manyText(8)
	parsed(t, text, p)
	text, _ = manyText(9)
	refused(t, text, 0, api.ErrArg)
}

// P4.2: a name is known from its own line on.
func TestNamesOfLaterLines(t *testing.T) {
	refused(t, "slot a 1\ndomain a 0{} 1 0 1\n", 1, api.ErrName)
	refused(t, "domain a 0{} 1 0 1\ncell a b 1\ndomain b 0{} 1 0 1\n", 2, api.ErrName)
	refused(t, "domain a 0{} 1 0 1\ncell b a 1\ndomain b 0{} 1 0 1\n", 2, api.ErrName)
	refused(t, "domain a 0{} 1 0 1\nslot a 1\ndomain a 1{} 1 0 1\n", 3, api.ErrName)
}

// P4.2: what Check says has no line.
func TestPoliciesThatMayNotBe(t *testing.T) {
	refused(t, "domain a 0{} 1 0 1\n", 0, api.ErrArg)
	refused(t, "domain a 0{} 0 0 1\nslot a 1\n", 0, api.ErrArg)
	refused(t, "domain a 0{} 9 0 1\nslot a 1\n", 0, api.ErrArg)
	refused(t, "domain a 0{} 1 9 1\nslot a 1\n", 0, api.ErrArg)
	refused(t, "domain a 0{} 1 0 9999\nslot a 1\n", 0, api.ErrArg)
	refused(t, usualText+"domain a 0{} 1 0 1\n", 0, api.ErrSlot)
	refused(t, usualText+"cell mid low 1\n", 0, api.ErrDenied)
	refused(t, usualText+"cell mid low 5\n", 0, api.ErrArg)
	refused(t, usualText+"pump mid mid 1\n", 0, api.ErrArg)
	refused(t, usualText+"slot low 0\n", 0, api.ErrArg)
	refused(t, usualText+strings.Repeat("cell low mid 1\n", 6), 0, api.ErrArg)
	refused(t, usualText+strings.Repeat("slot low 1\n", 13), 0, api.ErrArg)
}

// P4.2: every text of up to five of these signs as a number; one that is one is 1 to 16, or is left to Check.
func TestNumbers(t *testing.T) {
	form := regexp.MustCompile(`^(0|[1-9][0-9]{0,3})$`)
	words := []string{""}
	for range 5 {
		var longer []string
		for _, w := range words {
			for _, sign := range []string{"0", "1", "7", "9", "-", "+", "x", "_", ".", "/", ":", "٣", "１", "\ufffd"} {
				longer = append(longer, w+sign)
			}
		}
		words = longer
		if len(words) > 50000 {
			words = words[:50000]
		}
		for _, w := range words {
			text := "domain a 0{} 1 0 1\nslot a " + w + "\n"
			n, err := strconv.Atoi(w)
			switch {
			case !form.MatchString(w):
				refused(t, text, 2, api.ErrText)
			case err != nil || n < 1 || n > 16:
				refused(t, text, 0, api.ErrArg)
			default:
				parsed(t, text, api.Policy{Domains: []api.Domain{{Name: "a", Tasks: 1, Ring: 1}}, Slots: []api.Slot{{Dom: 0, Len: n}}})
			}
		}
	}
}

// P4.2
func TestEveryNumberOfFourDigits(t *testing.T) {
	for n := range 10000 {
		text := "domain a 0{} 1 0 " + strconv.Itoa(n) + "\nslot a 1\n"
		if n < 1 || n > 16 {
			refused(t, text, 0, api.ErrArg)
		} else {
			parsed(t, text, api.Policy{Domains: []api.Domain{{Name: "a", Tasks: 1, Ring: n}}, Slots: []api.Slot{{Dom: 0, Len: 1}}})
		}
	}
	for _, w := range []string{"10000", "00001", "65537", "4294967297", "18446744073709551617", strings.Repeat("9", 1000), strings.Repeat("0", 1000)} {
		refused(t, "domain a 0{} 1 0 "+w+"\nslot a 1\n", 1, api.ErrText)
	}
}

// What is wrong in a line behind usualText, word by word, from the chapter's list of what each line wants.
func wrongInLine(row []string) api.Errno {
	wants, known := map[string][]string{
		"domain": {"new", "label", "number", "number", "number"},
		"slot":   {"old", "number"},
		"cell":   {"old", "old", "number"},
		"pump":   {"old", "old", "number"},
	}[row[0]]
	if !known || len(wants) != len(row)-1 {
		return api.ErrText
	}
	forms := map[string]string{
		"new":    `^[a-z]{1,12}$`,
		"old":    `^(low|mid|ω)$`,
		"label":  `^[0-7]\{α?β?γ?\}$`,
		"number": `^(0|[1-9][0-9]{0,3})$`,
	}
	errors := map[string]api.Errno{"new": api.ErrName, "old": api.ErrName, "label": api.ErrLabel, "number": api.ErrText}
	for i, want := range wants {
		taken := want == "new" && regexp.MustCompile(forms["old"]).MatchString(row[i+1])
		if taken || !regexp.MustCompile(forms[want]).MatchString(row[i+1]) {
			return errors[want]
		}
	}
	return api.OK
}

// P4.2 with R2: each two words of a line in the stead of what stands there, a word too few and a word too many.
func TestWrongWordsFromLeftToRight(t *testing.T) {
	words := []string{"domain", "slot", "cell", "pump", "Domain", "low", "mid", "ω", "a", "Low", "abcdefghijkl", "abcdefghijklm", "0{}", "8{}", "3{αγ}", "3{γα}", "0", "3", "01", "12345", "-1", "1.", "\ufffd"}
	for _, line := range []string{"domain c 2{α} 1 2 3", "slot mid 2", "cell low ω 3", "pump low mid 1"} {
		row := strings.Fields(line)
		for i := range row {
			wrongLine(t, slices.Delete(slices.Clone(row), i, i+1))
			for _, a := range words {
				wrongLine(t, slices.Insert(slices.Clone(row), i+1, a))
				for j := range row {
					for _, b := range words {
						turned := slices.Clone(row)
						turned[i], turned[j] = a, b
						wrongLine(t, turned)
					}
				}
			}
		}
	}
}

func wrongLine(t *testing.T, row []string) {
	t.Helper()
	s := usualText + strings.Join(row, " ") + "\nlock"
	if e := wrongInLine(row); e != api.OK {
		refused(t, s, 11, e)
	} else {
		refused(t, s, 12, api.ErrText)
	}
}

// P4.2, P4.3: what is printed is parsed to what it was, for policies that a row of numbers makes.
func TestPrintedPoliciesAreParsed(t *testing.T) {
	seed := uint64(1)
	below := func(n int) int {
		seed = seed*6364136223846793005 + 1442695040888963407
		return int(seed>>33) % n
	}
	for range 2000 {
		p := many(1 + below(8))
		for i := range p.Domains {
			d := &p.Domains[i]
			d.Label = api.Label{Level: below(8), Cats: below(1 << 16)}
			d.Tasks, d.Objects, d.Ring = 1+below(8), below(9), 1+below(16)
			p.Slots[i].Len = 1 + below(16)
		}
		for range below(17 - len(p.Slots)) {
			p.Slots = slices.Insert(p.Slots, below(len(p.Slots)), api.Slot{Dom: below(len(p.Domains)), Len: 1 + below(16)})
		}
		for range below(9) {
			l := api.Link{Kind: 1 + below(2), From: below(len(p.Domains)), To: below(len(p.Domains)), Size: 1 + below(4)}
			from, to := p.Domains[l.From].Label, p.Domains[l.To].Label
			if l.From != l.To && from.Level <= to.Level && from.Cats|to.Cats == to.Cats {
				p.Links = append(p.Links, l)
			}
		}
		s, e := policy.Print(p)
		if e != api.OK {
			t.Fatalf("Print(%v) is %d", p, e)
		}
		parsed(t, s, p)
	}
}

// P4.3: the greatest policy has a text that is not too long to be parsed.
func TestTheLongestText(t *testing.T) {
	p := api.Policy{}
	for n := range 8 {
		name := strings.Repeat("ω", 11) + string(rune('α'+n))
		p.Domains = append(p.Domains, api.Domain{Name: name, Label: api.Label{Level: 7, Cats: 1<<16 - 1}, Tasks: 8, Objects: 8, Ring: 16})
		p.Slots = append(p.Slots, api.Slot{Dom: n, Len: 16}, api.Slot{Dom: n, Len: 16})
		p.Links = append(p.Links, api.Link{Kind: api.Pump, From: n, To: (n + 1) % 8, Size: 8})
	}
	s, e := policy.Print(p)
	if e != api.OK || len(s) > 4096 {
		t.Fatalf("Print is %q, %d", s, e)
	}
	parsed(t, s, p)
}

// P4.2 with R1: whatever bytes there are, an error has nothing beside it, and a policy is the one of its text.
func TestTextsWithOneByteChanged(t *testing.T) {
	text := "domain a 0{α} 1 0 1\ndomain b 1{αβ} 2 3 4\nslot b 2\nslot a 1\npump a b 3\n"
	for i := range len(text) {
		for b := range 256 {
			s := text[:i] + string([]byte{byte(b)}) + text[i+1:]
			p, line, e := policy.Parse(s)
			if e != api.OK {
				if !empty(p) || line < 0 || line > 6 {
					t.Errorf("Parse(%q) is %v, %d, %d", s, p, line, e)
				}
				continue
			}
			again, e := policy.Print(p)
			if line != 0 || e != api.OK {
				t.Errorf("Parse(%q) is %v, %d; Print %d", s, p, line, e)
			}
			parsed(t, again, p)
		}
	}
}

// R4: what is handed in stays as it was, its spare room too.
func TestPoliciesAreNotChanged(t *testing.T) {
	p, before := usual(), usual()
	policy.Check(p)
	policy.Print(p)
	p.Domains, before.Domains = p.Domains[:20], before.Domains[:20]
	p.Slots, before.Slots = p.Slots[:20], before.Slots[:20]
	p.Links, before.Links = p.Links[:20], before.Links[:20]
	if !same(p, before) {
		t.Errorf("the policy became %v", p)
	}
}

// R4, R5: an answer shares no memory with another one.
func TestAnswersAreNewMemory(t *testing.T) {
	first, _, _ := policy.Parse(usualText)
	second, _, _ := policy.Parse(usualText)
	clear(first.Domains[:cap(first.Domains)])
	clear(first.Slots[:cap(first.Slots)])
	clear(first.Links[:cap(first.Links)])
	if !same(second, usual()) {
		t.Errorf("the second answer is %v", second)
	}
	parsed(t, usualText, usual())
}
