package tick_test

import (
	"math"
	"math/big"
	"math/rand"
	"slices"
	"testing"

	"parclose/api"
	"parclose/tick"
)

const last = 1 << 62

// Pairs of Dom and Len.
func slots(pairs ...[2]int) []api.Slot {
	var list []api.Slot
	for _, p := range pairs {
		list = append(list, api.Slot{Dom: p[0], Len: p[1]})
	}
	return list
}

func repeated(n int, s api.Slot) []api.Slot { return slices.Repeat([]api.Slot{s}, n) }

// One tick of a cycle: whose it is, and how far its slot's beginning lies back.
type owned struct{ place, since int }

// One cycle, laid out tick by tick as the chapter's words have it.
func layout(list []api.Slot) []owned {
	var ticks []owned
	for place, s := range list {
		if place < 16 && s.Len >= 1 && s.Len <= 16 {
			for since := range s.Len {
				ticks = append(ticks, owned{place, since})
			}
		}
	}
	return ticks
}

func clamped(t int) int {
	switch {
	case t < 0:
		return 0
	case t > last:
		return last
	}
	return t
}

func atByLayout(list []api.Slot, t int) (slot, start int) {
	ticks := layout(list)
	if len(ticks) == 0 {
		return -1, 0
	}
	t = clamped(t)
	o := ticks[t%len(ticks)]
	return o.place, t - o.since
}

// Every domain that has a slot has one in each cycle, so that a cycle from t on is all that is to be walked.
func nextByWalking(list []api.Slot, dom, t int) (int, bool) {
	ticks := layout(list)
	t = clamped(t)
	for n := t; n <= last && n < t+len(ticks); n++ {
		o := ticks[n%len(ticks)]
		if o.since == 0 && list[o.place].Dom == dom {
			return n, true
		}
	}
	return 0, false
}

func cycleIs(t *testing.T, list []api.Slot, want int) {
	t.Helper()
	if n := tick.Cycle(list); n != want {
		t.Errorf("Cycle(%v) is %d, not %d", list, n, want)
	}
}

func atIs(t *testing.T, list []api.Slot, at, slot, start int) {
	t.Helper()
	if s, from := tick.At(list, at); s != slot || from != start {
		t.Errorf("At(%v, %d) is %d, %d, not %d, %d", list, at, s, from, slot, start)
	}
}

func nextIs(t *testing.T, list []api.Slot, dom, from, want int, ok bool) {
	t.Helper()
	if n, found := tick.Next(list, dom, from); n != want || found != ok {
		t.Errorf("Next(%v, %d, %d) is %d, %v, not %d, %v", list, dom, from, n, found, want, ok)
	}
}

// Whatever the chapter's words lay out is what the calls answer, from each of the ticks.
func asLaidOut(t *testing.T, list []api.Slot, doms, ticks []int) {
	t.Helper()
	cycleIs(t, list, len(layout(list)))
	for _, at := range ticks {
		slot, start := atByLayout(list, at)
		atIs(t, list, at, slot, start)
		for _, dom := range doms {
			n, ok := nextByWalking(list, dom, at)
			nextIs(t, list, dom, at, n, ok)
		}
	}
}

func ticksFrom(first, count int) []int {
	var list []int
	for n := range count {
		list = append(list, first+n)
	}
	return list
}

// P5.1, P5.2: the chapter's examples.
func TestExamples(t *testing.T) {
	list := slots([2]int{0, 2}, [2]int{1, 1}, [2]int{0, 1})
	cycleIs(t, list, 4)
	atIs(t, list, 5, 0, 4)
	atIs(t, list, 6, 1, 6)
	nextIs(t, list, 0, 5, 7, true)
	nextIs(t, list, 1, 6, 6, true)
	nextIs(t, list, 2, 0, 0, false)
	if n := tick.Add(1<<62-1, 5); n != 1<<62 {
		t.Errorf("Add is %d", n)
	}
}

// P5.1
func TestCycle(t *testing.T) {
	for _, c := range []struct {
		list []api.Slot
		want int
	}{
		{nil, 0},
		{[]api.Slot{}, 0},
		{slots([2]int{0, 1}), 1},
		{slots([2]int{0, 16}), 16},
		{slots([2]int{0, 0}), 0},
		{slots([2]int{0, 17}), 0},
		{slots([2]int{0, -1}), 0},
		{slots([2]int{0, math.MinInt}, [2]int{0, math.MaxInt}), 0},
		{slots([2]int{0, 17}, [2]int{0, 16}, [2]int{0, 0}, [2]int{0, 1}, [2]int{0, -3}), 17},
		// Whose a slot is changes nothing: even such a domain as may not be.
		{slots([2]int{-1, 3}, [2]int{math.MaxInt, 4}, [2]int{math.MinInt, 5}), 12},
		{repeated(16, api.Slot{Len: 16}), 256},
		{repeated(17, api.Slot{Len: 16}), 256},
		{repeated(1000, api.Slot{Len: 1}), 16},
		// Slots that do not count are of the first 16 too.
		{slices.Concat(repeated(15, api.Slot{}), slots([2]int{0, 5}, [2]int{0, 7})), 5},
		{slices.Concat(repeated(16, api.Slot{Len: 17}), slots([2]int{0, 5})), 0},
	} {
		cycleIs(t, c.list, c.want)
	}
}

// P5.1
func TestAt(t *testing.T) {
	list := slots([2]int{0, 0}, [2]int{3, 2}, [2]int{4, 17}, [2]int{3, 16}, [2]int{5, -1}, [2]int{6, 1})
	for _, c := range [][3]int{
		{0, 1, 0}, {1, 1, 0}, {2, 3, 2}, {17, 3, 2}, {18, 5, 18}, {19, 1, 19}, {20, 1, 19}, {21, 3, 21}, {36, 3, 21}, {37, 5, 37}, {38, 1, 38},
		{-1, 1, 0}, {math.MinInt, 1, 0},
	} {
		atIs(t, list, c[0], c[1], c[2])
	}
}

// P5.1
func TestAtOfNoSlotThatCounts(t *testing.T) {
	for _, list := range [][]api.Slot{
		nil, {}, slots([2]int{0, 0}), slots([2]int{0, 17}, [2]int{0, -1}), slots([2]int{0, math.MaxInt}, [2]int{0, math.MinInt}),
		slices.Concat(repeated(16, api.Slot{}), slots([2]int{0, 1})),
	} {
		for _, at := range []int{math.MinInt, -1, 0, 1, 5, last - 1, last, last + 1, math.MaxInt} {
			atIs(t, list, at, -1, 0)
		}
	}
}

// P5.1: at the end of time slots go on as they do elsewhere. 2^62 is 1 beyond a multiple of 3, and 4 beyond one of 12.
func TestAtTheLastTicks(t *testing.T) {
	three := slots([2]int{0, 1}, [2]int{1, 2})
	for _, c := range [][3]int{{last - 2, 1, last - 3}, {last - 1, 0, last - 1}, {last, 1, last}, {last + 1, 1, last}, {last + 2, 1, last}, {math.MaxInt, 1, last}} {
		atIs(t, three, c[0], c[1], c[2])
	}
	twelve := slots([2]int{0, 4}, [2]int{1, 8})
	for _, c := range [][3]int{{last - 1, 0, last - 4}, {last, 1, last}, {math.MaxInt, 1, last}} {
		atIs(t, twelve, c[0], c[1], c[2])
	}
	atIs(t, slots([2]int{0, 3}, [2]int{1, 9}), last, 1, last-1)
}

// P5.2
func TestNext(t *testing.T) {
	list := slots([2]int{7, 2}, [2]int{8, 0}, [2]int{9, 3}, [2]int{7, 1}, [2]int{7, 4}, [2]int{-1, 1}, [2]int{8, 17}) // a cycle of 11
	for _, c := range []struct {
		dom, from, want int
		ok              bool
	}{
		{7, 0, 0, true}, {7, 1, 5, true}, {7, 5, 5, true}, {7, 6, 6, true}, {7, 7, 11, true}, {7, 11, 11, true}, {7, 12, 16, true},
		{9, 0, 2, true}, {9, 2, 2, true}, {9, 3, 13, true}, {9, 10, 13, true}, {9, 11, 13, true}, {9, 13, 13, true}, {9, 14, 24, true},
		{-1, 0, 10, true}, {-1, 10, 10, true}, {-1, 11, 21, true},
		{7, -1, 0, true}, {9, -1, 2, true}, {9, math.MinInt, 2, true},
		// Whose slots do not count, or who has none, has no beginning.
		{8, 0, 0, false}, {0, 0, 0, false}, {0, 11, 0, false}, {math.MaxInt, 5, 0, false}, {math.MinInt, 5, 0, false},
	} {
		nextIs(t, list, c.dom, c.from, c.want, c.ok)
	}
}

// P5.2: a slot that follows on another one of its domain, or on itself, begins nevertheless.
func TestNextOfSlotsOfOneDomain(t *testing.T) {
	for from := range 20 {
		nextIs(t, slots([2]int{2, 1}), 2, from, from, true)
		nextIs(t, slots([2]int{2, 3}, [2]int{2, 3}), 2, from, (from+2)/3*3, true)
	}
}

// P5.2: at the end of time there is what begins at 2^62, and nothing behind it.
func TestNextAtTheLastTicks(t *testing.T) {
	three := slots([2]int{0, 1}, [2]int{1, 1}, [2]int{2, 1}) // 2^62 is of domain 1
	for _, c := range []struct {
		dom, from, want int
		ok              bool
	}{
		{0, last - 1, last - 1, true}, {1, last - 1, last, true}, {2, last - 1, 0, false},
		{0, last, 0, false}, {1, last, last, true}, {2, last, 0, false},
		{0, last - 3, last - 1, true}, {2, last - 2, last - 2, true},
		{1, last + 1, last, true}, {1, math.MaxInt, last, true}, {0, last + 2, 0, false}, {2, math.MaxInt, 0, false},
	} {
		nextIs(t, three, c.dom, c.from, c.want, c.ok)
	}
	// A long slot that begins within time counts, though time ends within it.
	nextIs(t, slots([2]int{0, 4}, [2]int{1, 16}), 1, last-19, last, true) // 2^62 is 4 beyond a multiple of 20
}

// P5.2
func TestNextOfNoSlotThatCounts(t *testing.T) {
	for _, list := range [][]api.Slot{nil, {}, slots([2]int{1, 0}, [2]int{1, 17}), slices.Concat(repeated(16, api.Slot{}), slots([2]int{1, 1}))} {
		for _, from := range []int{math.MinInt, -1, 0, 5, last, math.MaxInt} {
			nextIs(t, list, 0, from, 0, false)
			nextIs(t, list, 1, from, 0, false)
		}
	}
	// The 17th slot does not count, though others do.
	nextIs(t, append(repeated(16, api.Slot{Dom: 0, Len: 1}), api.Slot{Dom: 1, Len: 1}), 1, 0, 0, false)
	nextIs(t, append(repeated(15, api.Slot{Dom: 0, Len: 1}), api.Slot{Dom: 1, Len: 1}), 1, 0, 15, true)
}

// P5.1, P5.2: every list of up to four slots of two domains, with lengths of which two do not count.
func TestAllSmallLists(t *testing.T) {
	ticks := slices.Concat([]int{math.MinInt, -1}, ticksFrom(0, 20), ticksFrom(last-9, 12), []int{math.MaxInt})
	var grow func(list []api.Slot)
	grow = func(list []api.Slot) {
		asLaidOut(t, list, []int{0, 1}, ticks)
		if len(list) == 4 {
			return
		}
		for dom := range 2 {
			for _, length := range []int{0, 1, 3, 17} {
				grow(append(slices.Clone(list), api.Slot{Dom: dom, Len: length}))
			}
		}
	}
	grow(nil)
}

// P5.1, P5.2: long lists, at the beginning, anywhere, and at the end of time.
func TestManyLongLists(t *testing.T) {
	source := rand.New(rand.NewSource(5))
	for range 60 {
		list := make([]api.Slot, source.Intn(21))
		for i := range list {
			list[i] = api.Slot{Dom: source.Intn(9) - 1, Len: source.Intn(19) - 1}
		}
		ticks := slices.Concat(ticksFrom(-1, 520), ticksFrom(source.Intn(last), 300), ticksFrom(last-520, 523))
		asLaidOut(t, list, ticksFrom(-2, 11), ticks)
	}
}

// P5.1, P5.2: the greatest cycle there may be.
func TestTheLongestCycle(t *testing.T) {
	var list []api.Slot
	for n := range 16 {
		list = append(list, api.Slot{Dom: n, Len: 16})
	}
	asLaidOut(t, list, ticksFrom(0, 17), slices.Concat(ticksFrom(0, 600), ticksFrom(last-600, 602)))
}

// P5.2
func TestAdd(t *testing.T) {
	for _, c := range [][3]int{
		{0, 0, 0}, {0, 1, 1}, {3, 4, 7}, {1 << 20, 1 << 20, 1 << 21},
		{3, -1, 3}, {3, -4, 3}, {3, math.MinInt, 3}, {0, -1, 0},
		{-1, 0, 0}, {-3, 4, 4}, {-3, -4, 0}, {math.MinInt, 5, 5}, {math.MinInt, math.MinInt, 0}, {math.MinInt, math.MaxInt, last},
		{last - 1, 0, last - 1}, {last - 1, 1, last}, {last - 1, 2, last}, {last, 0, last}, {last, 1, last}, {last, -1, last}, {last - 5, 4, last - 1},
		{0, last - 1, last - 1}, {0, last, last}, {0, last + 1, last}, {0, math.MaxInt, last}, {1, last - 1, last}, {1, last - 2, last - 1}, {1, last, last},
		{last + 1, 0, last}, {last + 1, -7, last}, {math.MaxInt, 0, last}, {math.MaxInt, math.MaxInt, last}, {last, last, last}, {last, math.MaxInt, last},
	} {
		if n := tick.Add(c[0], c[1]); n != c[2] {
			t.Errorf("Add(%d, %d) is %d, not %d", c[0], c[1], n, c[2])
		}
	}
}

// P5.2 with R8: sums are of numbers without bound.
func TestAddOfEveryPairOfEdges(t *testing.T) {
	var edges []int
	for _, n := range []int{math.MinInt, -last, -1 << 32, 0, 1 << 20, 1 << 32, last / 2, last, math.MaxInt - 3} {
		for k := -3; k <= 3; k++ {
			if k >= 0 || n > math.MinInt {
				edges = append(edges, n+k)
			}
		}
	}
	none, end := big.NewInt(0), big.NewInt(last)
	for _, a := range edges {
		for _, d := range edges {
			want := big.NewInt(int64(clamped(a)))
			if later := big.NewInt(int64(d)); later.Cmp(none) > 0 {
				want.Add(want, later)
			}
			if want.Cmp(end) > 0 {
				want = end
			}
			if n := tick.Add(a, d); big.NewInt(int64(n)).Cmp(want) != 0 {
				t.Errorf("Add(%d, %d) is %d, not %v", a, d, n, want)
			}
		}
	}
}

// R4: a list stays as it was, its spare room too, and what lies in that does not count.
func TestListsAreNotChanged(t *testing.T) {
	whole := slots([2]int{0, 2}, [2]int{1, 17}, [2]int{1, 3}, [2]int{0, 4}, [2]int{2, 5})
	before := slices.Clone(whole)
	list := whole[:3]
	cycleIs(t, list, 5)
	atIs(t, list, 6, 0, 5)
	nextIs(t, list, 1, 3, 7, true)
	nextIs(t, list, 2, 0, 0, false)
	if !slices.Equal(whole, before) {
		t.Errorf("the list became %v", whole)
	}
}

// R5: what was asked earlier changes no later answer.
func TestNothingIsKept(t *testing.T) {
	one, other := slots([2]int{0, 2}, [2]int{1, 1}), slots([2]int{1, 5})
	for range 3 {
		cycleIs(t, one, 3)
		cycleIs(t, other, 5)
		atIs(t, one, 5, 1, 5)
		atIs(t, other, 5, 0, 5)
		nextIs(t, one, 1, 3, 5, true)
		nextIs(t, other, 1, 6, 10, true)
		atIs(t, nil, 5, -1, 0)
	}
}
