package policy

import (
	"strconv"
	"strings"

	"parclose/api"
	"parclose/sign"
)

const maxDigits = 4

// firstRow is the words that stand in the first one's line; there is at least one word.
func firstRow(words []api.Word) []api.Word {
	n := 1
	for n < len(words) && words[n].Line == words[0].Line {
		n++
	}
	return words[:n]
}

func texts(row []api.Word) []string {
	var list []string
	for _, w := range row {
		list = append(list, w.Text)
	}
	return list
}

func readRow(p *api.Policy, row []string) api.Errno {
	switch {
	case opens(row, domainWord, 6):
		return readDomain(p, row[1:])
	case opens(row, slotWord, 3):
		return readSlot(p, row[1:])
	case opens(row, cellWord, 4):
		return readLink(p, api.Cell, row[1:])
	case opens(row, pumpWord, 4):
		return readLink(p, api.Pump, row[1:])
	}
	return api.ErrText
}

func opens(row []string, word string, length int) bool {
	return row[0] == word && len(row) == length
}

func readDomain(p *api.Policy, row []string) api.Errno {
	d := api.Domain{Name: row[0]}
	if !sign.Name(d.Name) || place(p.Domains, d.Name) >= 0 {
		return api.ErrName
	}
	var e api.Errno
	if d.Label, e = sign.Read(row[1]); e != api.OK {
		return e
	}
	if !readNumbers(row[2:], &d.Tasks, &d.Objects, &d.Ring) {
		return api.ErrText
	}
	p.Domains = append(p.Domains, d)
	return api.OK
}

// What is no name at all is no earlier line's either, so looking for its place is enough; so it is of links.
func readSlot(p *api.Policy, row []string) api.Errno {
	s := api.Slot{Dom: place(p.Domains, row[0])}
	if s.Dom < 0 {
		return api.ErrName
	}
	if !readNumbers(row[1:], &s.Len) {
		return api.ErrText
	}
	p.Slots = append(p.Slots, s)
	return api.OK
}

func readLink(p *api.Policy, kind int, row []string) api.Errno {
	l := api.Link{Kind: kind, From: place(p.Domains, row[0]), To: place(p.Domains, row[1])}
	if l.From < 0 || l.To < 0 {
		return api.ErrName
	}
	if !readNumbers(row[2:], &l.Size) {
		return api.ErrText
	}
	p.Links = append(p.Links, l)
	return api.OK
}

// readNumbers needs a word for each place; false: one of them is no number.
func readNumbers(words []string, places ...*int) bool {
	for i, to := range places {
		n, ok := number(words[i])
		if !ok {
			return false
		}
		*to = n
	}
	return true
}

func number(s string) (int, bool) {
	// Asked ahead, so that nothing wraps round below.
	if len(s) < 1 || len(s) > maxDigits || len(s) > 1 && s[0] == '0' {
		return 0, false
	}
	n := 0
	for _, r := range s {
		if r < '0' || r > '9' {
			return 0, false
		}
		n = 10*n + int(r-'0')
	}
	return n, true
}

func printRow(words []string, numbers ...int) string {
	for _, n := range numbers {
		words = append(words, strconv.Itoa(n))
	}
	return strings.Join(words, " ") + "\n"
}
