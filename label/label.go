// Package label is how secret things are.
package label

import "parclose/api"

// Good: may a label be?
func Good(l api.Label) bool {
	return goodLevel(l.Level) && goodCats(l.Cats)
}

// Leq: may what has one label flow to what has another one?
func Leq(a, b api.Label) bool {
	return a.Level <= b.Level && a.Cats&^b.Cats == 0
}

// Join: the least that both may flow to.
func Join(a, b api.Label) api.Label {
	return api.Label{Level: max(a.Level, b.Level), Cats: a.Cats | b.Cats}
}

// Meet: the greatest that may flow to both.
func Meet(a, b api.Label) api.Label {
	return api.Label{Level: min(a.Level, b.Level), Cats: a.Cats & b.Cats}
}

// Below: which ones may flow to a label.
func Below(list []api.Label, top api.Label) []int {
	var places []int
	for i, l := range list {
		if Leq(l, top) {
			places = append(places, i)
		}
	}
	return places
}

func goodLevel(level int) bool {
	return 0 <= level && level <= api.MaxLevel
}

// Below 0 is asked too: a negative number's sign bit is beyond the last category.
func goodCats(cats int) bool {
	return 0 <= cats && cats < 1<<api.MaxCats
}
