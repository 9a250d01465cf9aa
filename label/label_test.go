package label_test

import (
	"math"
	"slices"
	"testing"

	"parclose/api"
	"parclose/label"
)

func at(level, cats int) api.Label { return api.Label{Level: level, Cats: cats} }

// Numbers at their ends and around the limits, so that every pair of labels made of them is tried.
func edgeLabels() []api.Label {
	levels := []int{math.MinInt, -1, 0, 1, 3, 7, 8, math.MaxInt}
	cats := []int{math.MinInt, -1, -2, 0, 1, 2, 3, 5, 1 << 15, 1<<16 - 1, 1 << 16, 1 << 62, math.MaxInt}
	var list []api.Label
	for _, level := range levels {
		for _, c := range cats {
			list = append(list, at(level, c))
		}
	}
	return list
}

func hasCat(l api.Label, n int) bool { return uint64(l.Cats)>>n&1 == 1 }

// The order category by category, as the chapter's words have it.
func leqByCats(a, b api.Label) bool {
	if a.Level > b.Level {
		return false
	}
	for n := range 64 {
		if hasCat(a, n) && !hasCat(b, n) {
			return false
		}
	}
	return true
}

func catsWhere(has func(n int) bool) int {
	var bits uint64
	for n := range 64 {
		if has(n) {
			bits |= 1 << n
		}
	}
	return int(bits)
}

func joinByCats(a, b api.Label) api.Label {
	level := a.Level
	if b.Level > level {
		level = b.Level
	}
	return at(level, catsWhere(func(n int) bool { return hasCat(a, n) || hasCat(b, n) }))
}

func meetByCats(a, b api.Label) api.Label {
	level := a.Level
	if b.Level < level {
		level = b.Level
	}
	return at(level, catsWhere(func(n int) bool { return hasCat(a, n) && hasCat(b, n) }))
}

// P1.1
func TestGoodLabels(t *testing.T) {
	for level := 0; level <= 7; level++ {
		for _, cats := range []int{0, 1, 5, 1 << 15, 1<<16 - 2, 1<<16 - 1} {
			if !label.Good(at(level, cats)) {
				t.Errorf("Good(%d, %d) is false", level, cats)
			}
		}
	}
}

// P1.1
func TestEverySetOfCategoriesIsGood(t *testing.T) {
	for cats := range 1 << 16 {
		if !label.Good(at(4, cats)) {
			t.Fatalf("Good(4, %d) is false", cats)
		}
	}
}

// P1.1
func TestLabelsThatAreNotGood(t *testing.T) {
	for _, l := range []api.Label{
		at(8, 0), at(8, 1<<16-1), at(-1, 0), at(-1, 3), at(math.MaxInt, 0), at(math.MinInt, 0),
		at(0, 1<<16), at(7, 1<<16), at(0, 1<<16+1), at(0, 1<<17), at(0, 1<<32), at(0, 1<<62), at(0, math.MaxInt),
		at(0, -1), at(7, -1), at(3, -1<<16), at(0, math.MinInt), at(0, math.MinInt+1),
		at(8, 1<<16), at(-1, -1), at(math.MinInt, math.MaxInt),
	} {
		if label.Good(l) {
			t.Errorf("Good(%v) is true", l)
		}
	}
}

// P1.2: the chapter's examples.
func TestExamples(t *testing.T) {
	if !label.Leq(at(1, 5), at(2, 7)) {
		t.Error("{1, 5} is not Leq {2, 7}")
	}
	if label.Leq(at(1, 5), at(3, 4)) {
		t.Error("{1, 5} is Leq {3, 4}")
	}
	if x := label.Join(at(1, 5), at(3, 4)); x != at(3, 5) {
		t.Errorf("Join is %v", x)
	}
	if x := label.Meet(at(1, 5), at(3, 4)); x != at(1, 4) {
		t.Errorf("Meet is %v", x)
	}
}

// P1.2
func TestLeq(t *testing.T) {
	for _, c := range []struct {
		a, b api.Label
		want bool
	}{
		{at(0, 0), at(0, 0), true},
		{at(0, 0), at(7, 1<<16-1), true},
		{at(7, 1<<16-1), at(7, 1<<16-1), true},
		{at(7, 0), at(6, 1<<16-1), false},
		{at(0, 1), at(7, 2), false},
		{at(2, 3), at(2, 1), false},
		{at(2, 1), at(2, 3), true},
		{at(0, 1<<15), at(0, 1<<15-1), false},
		{at(0, 3), at(0, 4), false},
		// Of labels that may not be, the bits count just so.
		{at(-1, 0), at(0, 0), true},
		{at(math.MinInt, 0), at(math.MaxInt, 0), true},
		{at(math.MaxInt, 0), at(math.MinInt, 0), false},
		{at(0, 1<<16-1), at(0, -1), true},
		{at(0, -1), at(0, 1<<16-1), false},
		{at(0, math.MinInt), at(0, 0), false},
		{at(0, math.MinInt), at(0, -1), true},
		{at(0, 1<<40), at(0, 0), false},
	} {
		if x := label.Leq(c.a, c.b); x != c.want {
			t.Errorf("Leq(%v, %v) is %v", c.a, c.b, x)
		}
	}
}

// P1.2
func TestJoinAndMeet(t *testing.T) {
	for _, c := range []struct{ a, b, join, meet api.Label }{
		{at(0, 0), at(0, 0), at(0, 0), at(0, 0)},
		{at(3, 1), at(1, 2), at(3, 3), at(1, 0)},
		{at(2, 6), at(2, 3), at(2, 7), at(2, 2)},
		{at(7, 1<<16-1), at(0, 0), at(7, 1<<16-1), at(0, 0)},
		{at(-1, -1), at(0, 3), at(0, -1), at(-1, 3)},
		{at(math.MinInt, math.MinInt), at(math.MaxInt, math.MaxInt), at(math.MaxInt, -1), at(math.MinInt, 0)},
		{at(9, 1<<20), at(8, 1<<20|1), at(9, 1<<20|1), at(8, 1<<20)},
	} {
		if x := label.Join(c.a, c.b); x != c.join {
			t.Errorf("Join(%v, %v) is %v", c.a, c.b, x)
		}
		if x := label.Meet(c.a, c.b); x != c.meet {
			t.Errorf("Meet(%v, %v) is %v", c.a, c.b, x)
		}
	}
}

// P1.2
func TestEveryPairOfEdges(t *testing.T) {
	list := edgeLabels()
	for _, a := range list {
		for _, b := range list {
			if x := label.Leq(a, b); x != leqByCats(a, b) {
				t.Errorf("Leq(%v, %v) is %v", a, b, x)
			}
			if x := label.Join(a, b); x != joinByCats(a, b) {
				t.Errorf("Join(%v, %v) is %v", a, b, x)
			}
			if x := label.Meet(a, b); x != meetByCats(a, b) {
				t.Errorf("Meet(%v, %v) is %v", a, b, x)
			}
		}
	}
}

// P1.2
func TestBelow(t *testing.T) {
	for _, c := range []struct {
		list []api.Label
		top  api.Label
		want []int
	}{
		{nil, at(7, 1<<16-1), nil},
		{[]api.Label{}, at(7, 1<<16-1), nil},
		{[]api.Label{at(3, 0), at(0, 4)}, at(2, 3), nil},
		{[]api.Label{at(2, 3)}, at(2, 3), []int{0}},
		{[]api.Label{at(1, 1), at(3, 0), at(0, 2), at(2, 3)}, at(2, 3), []int{0, 2, 3}},
		{[]api.Label{at(7, 0), at(0, 0), at(0, 0), at(7, 0), at(0, 0)}, at(0, 0), []int{1, 2, 4}},
		{[]api.Label{at(5, 1), at(4, 1), at(3, 1)}, at(5, 1), []int{0, 1, 2}},
		{[]api.Label{at(0, -1), at(-1, 1), at(math.MinInt, math.MinInt)}, at(0, 1), []int{1}},
		{[]api.Label{at(0, -1), at(-1, 1), at(math.MinInt, math.MinInt)}, at(math.MaxInt, -1), []int{0, 1, 2}},
		{[]api.Label{at(0, 0), at(-1, 0)}, at(-1, 0), []int{1}},
	} {
		if x := label.Below(c.list, c.top); !slices.Equal(x, c.want) {
			t.Errorf("Below(%v, %v) is %v", c.list, c.top, x)
		}
	}
}

// P1.2
func TestBelowOfEveryEdge(t *testing.T) {
	list := edgeLabels()
	for _, top := range list {
		var want []int
		for i, l := range list {
			if leqByCats(l, top) {
				want = append(want, i)
			}
		}
		if x := label.Below(list, top); !slices.Equal(x, want) {
			t.Errorf("Below of the edges and %v is %v", top, x)
		}
	}
}

// P1.2 with R4: the list and its spare room stay, and each answer is memory of its own.
func TestBelowKeepsToItsOwnMemory(t *testing.T) {
	whole := []api.Label{at(0, 0), at(1, 1), at(5, 5), at(1, 0), at(6, 6)}
	before := slices.Clone(whole)
	first := label.Below(whole[:3], at(2, 1))
	second := label.Below(whole[:3], at(2, 1))
	if !slices.Equal(whole, before) {
		t.Errorf("the list became %v", whole)
	}
	spare := first[:cap(first)]
	for i := range spare {
		spare[i] = -9
	}
	if !slices.Equal(second, []int{0, 1}) {
		t.Errorf("another answer became %v", second)
	}
	if x := label.Below(whole[:3], at(2, 1)); !slices.Equal(x, []int{0, 1}) {
		t.Errorf("a later answer is %v", x)
	}
}
