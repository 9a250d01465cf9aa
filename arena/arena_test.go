package arena_test

import (
	"math"
	"math/rand"
	"slices"
	"testing"

	"parclose/arena"
)

// Handles that no arena ever answers, and numbers at their ends.
var never = []int{math.MinInt, math.MinInt + 1, math.MinInt + 16, -4096, -255, -17, -16, -15, -1, 0, 4097, 4112, 1<<32 + 1, 1<<62 + 1, math.MaxInt - 15, math.MaxInt}

// One event of an arena's life: a place that was taken, or given back.
type event struct {
	place int
	back  bool
}

// told is an arena by the chapter's words alone: all that ever happened, gone through anew for each question.
type told struct {
	most   int
	events []event
}

// How often a place was given back so far, and whether it is taken now.
func (w *told) state(place int) (backs int, taken, ever bool) {
	for _, e := range w.events {
		if e.place == place {
			taken, ever = !e.back, true
			if e.back {
				backs++
			}
		}
	}
	return backs, taken, ever
}

func (w *told) choice() (place int, ok bool) {
	for _, e := range slices.Backward(w.events) {
		if backs, taken, _ := w.state(e.place); e.back && !taken && backs < 256 {
			return e.place, true
		}
	}
	for n := range w.most {
		if _, _, ever := w.state(n); !ever {
			return n, true
		}
	}
	return 0, false
}

func (w *told) take() (int, bool) {
	n, ok := w.choice()
	if !ok {
		return 0, false
	}
	backs, _, _ := w.state(n)
	w.events = append(w.events, event{n, false})
	return 1 + n + 16*backs, true
}

func (w *told) live() []int {
	var list []int
	for n := range w.most {
		if backs, taken, _ := w.state(n); taken {
			list = append(list, 1+n+16*backs)
		}
	}
	return list
}

func (w *told) free(h int) bool {
	for n := range w.most {
		if backs, taken, _ := w.state(n); taken && h == 1+n+16*backs {
			w.events = append(w.events, event{n, true})
			return true
		}
	}
	return false
}

func takeIs(t *testing.T, a *arena.Arena, want int) {
	t.Helper()
	if h, ok := a.Take(); h != want || ok != (want > 0) {
		t.Fatalf("Take is %d, %v, not %d", h, ok, want)
	}
}

func freeIs(t *testing.T, a *arena.Arena, h int, want bool) {
	t.Helper()
	if ok := a.Free(h); ok != want {
		t.Fatalf("Free(%d) is %v", h, ok)
	}
}

// Just these handles are somebody's, of all that an arena may answer and of some that it may not.
func liveIs(t *testing.T, a *arena.Arena, want ...int) {
	t.Helper()
	if list := a.Live(); !slices.Equal(list, want) {
		t.Fatalf("Live is %v, not %v", list, want)
	}
	for h := -40; h <= 4200; h++ {
		isIs(t, a, h, slices.Contains(want, h))
	}
	for _, h := range never {
		isIs(t, a, h, false)
	}
}

func isIs(t *testing.T, a *arena.Arena, h int, want bool) {
	place := -1
	if want {
		place = (h - 1) % 16
	}
	if a.Is(h) != want || a.Place(h) != place {
		t.Helper() // not asked for ahead, as this is called millions of times
		t.Fatalf("Is(%d) is %v, Place is %d, not %v, %d", h, a.Is(h), a.Place(h), want, place)
	}
}

// A place is taken and given back from one round on up to another.
func wear(t *testing.T, a *arena.Arena, place, from, to int) {
	t.Helper()
	for backs := from; backs < to; backs++ {
		takeIs(t, a, 1+place+16*backs)
		freeIs(t, a, 1+place+16*backs, true)
	}
}

// P6.1: the chapter's examples.
func TestExamples(t *testing.T) {
	a := arena.New(2)
	takeIs(t, a, 1)
	takeIs(t, a, 2)
	takeIs(t, a, 0)
	freeIs(t, a, 1, true)
	takeIs(t, a, 17)
	isIs(t, a, 1, false)
	liveIs(t, a, 17, 2)
}

// P6.1
func TestNew(t *testing.T) {
	for _, c := range [][2]int{
		{0, 0}, {1, 1}, {2, 2}, {8, 8}, {15, 15}, {16, 16},
		{17, 16}, {99, 16}, {1 << 32, 16}, {math.MaxInt, 16}, {-1, 0}, {-16, 0}, {-1 << 32, 0}, {math.MinInt, 0},
	} {
		a := arena.New(c[0])
		if a == nil {
			t.Fatalf("New(%d) is nil", c[0])
		}
		liveIs(t, a)
		var all []int
		for n := range c[1] {
			takeIs(t, a, n+1)
			all = append(all, n+1)
		}
		takeIs(t, a, 0)
		takeIs(t, a, 0)
		liveIs(t, a, all...)
	}
}

// P6.1: what was given back last is taken first, and it goes ahead of what was never taken.
func TestTakeTheLastGivenBack(t *testing.T) {
	a := arena.New(6)
	for _, h := range []int{1, 2, 3, 4} {
		takeIs(t, a, h)
	}
	for _, h := range []int{2, 4, 1} {
		freeIs(t, a, h, true)
	}
	liveIs(t, a, 3)
	takeIs(t, a, 17)
	takeIs(t, a, 20)
	freeIs(t, a, 3, true)
	freeIs(t, a, 17, true)
	liveIs(t, a, 20)
	takeIs(t, a, 33)
	takeIs(t, a, 19)
	takeIs(t, a, 18)
	takeIs(t, a, 5)
	freeIs(t, a, 18, true)
	takeIs(t, a, 34)
	takeIs(t, a, 6)
	takeIs(t, a, 0)
	liveIs(t, a, 33, 34, 19, 20, 5, 6)
}

// P6.1: a handle is given back once; one that is stale, is yet to come or is none at all is refused, and nothing changes.
func TestFreeOfNoHandle(t *testing.T) {
	a := arena.New(3)
	for _, h := range append([]int{1, 2, 3, 4, 17, 18, 4096}, never...) {
		freeIs(t, a, h, false)
	}
	takeIs(t, a, 1)
	takeIs(t, a, 2)
	freeIs(t, a, 2, true)
	for _, h := range append([]int{2, 3, 4, 16, 17, 18, 19, 33, 4081, 4096}, never...) {
		freeIs(t, a, h, false)
	}
	liveIs(t, a, 1)
	takeIs(t, a, 18)
	freeIs(t, a, 2, false)
	freeIs(t, a, 34, false)
	liveIs(t, a, 1, 18)
	// What was refused gave nothing back.
	takeIs(t, a, 3)
	takeIs(t, a, 0)
}

// P6.1: handles of places beyond an arena's own are none, with all of its own taken.
func TestPlacesBeyondTheLast(t *testing.T) {
	for most := range 17 {
		a := arena.New(most)
		var all []int
		for n := range most {
			takeIs(t, a, n+1)
			all = append(all, n+1)
		}
		for n := most; n < 48; n++ {
			isIs(t, a, n+1, false)
			freeIs(t, a, n+1, false)
		}
		liveIs(t, a, all...)
	}
}

// P6.1: a place is taken 256 times, the last time after it was given back 255 times, and then no more.
func TestAPlaceWearsOut(t *testing.T) {
	a := arena.New(1)
	wear(t, a, 0, 0, 255)
	takeIs(t, a, 4081)
	takeIs(t, a, 0)
	liveIs(t, a, 4081)
	freeIs(t, a, 4081, true)
	for range 3 {
		takeIs(t, a, 0)
		freeIs(t, a, 4081, false)
		freeIs(t, a, 4097, false)
		liveIs(t, a)
	}
}

// P6.1: who comes behind a worn-out place is the one given back ahead of it, and then the lowest never taken.
func TestOthersGoOnBesideAWornOutPlace(t *testing.T) {
	a := arena.New(5)
	for _, h := range []int{1, 2, 3} {
		takeIs(t, a, h)
	}
	freeIs(t, a, 3, true)
	freeIs(t, a, 1, true)
	freeIs(t, a, 2, true)
	wear(t, a, 1, 1, 256)
	liveIs(t, a)
	takeIs(t, a, 17)
	takeIs(t, a, 19)
	takeIs(t, a, 4)
	freeIs(t, a, 17, true)
	takeIs(t, a, 33)
	takeIs(t, a, 5)
	takeIs(t, a, 0)
	liveIs(t, a, 33, 19, 4, 5)
}

// P6.1: a place that wears out while others are taken is skipped by all who are given back after it.
func TestWearingOutAheadOfOthers(t *testing.T) {
	a := arena.New(3)
	wear(t, a, 0, 0, 255)
	takeIs(t, a, 4081)
	takeIs(t, a, 2)
	takeIs(t, a, 3)
	freeIs(t, a, 2, true)
	freeIs(t, a, 4081, true)
	freeIs(t, a, 3, true)
	takeIs(t, a, 19)
	takeIs(t, a, 18)
	takeIs(t, a, 0)
	liveIs(t, a, 18, 19)
}

// P6.1: every place wears out, the highest one's last handle being 4096, and no handle came twice.
func TestAllPlacesWearOut(t *testing.T) {
	a := arena.New(16)
	for n := range 16 {
		wear(t, a, n, 0, 256)
	}
	takeIs(t, a, 0)
	liveIs(t, a)

	b := arena.New(16)
	var seen []int
	for {
		var round []int
		for h, ok := b.Take(); ok; h, ok = b.Take() {
			round = append(round, h)
		}
		if len(round) == 0 {
			break
		}
		for _, h := range round {
			freeIs(t, b, h, true)
		}
		seen = append(seen, round...)
	}
	slices.Sort(seen)
	if len(seen) != 4096 || seen[0] != 1 || seen[4095] != 4096 || len(slices.Compact(seen)) != 4096 {
		t.Errorf("%d handles from %d on", len(seen), seen[0])
	}
}

// One arena beside another one that goes by the chapter's words.
type pair struct {
	a *arena.Arena
	w told
}

// One more step is answered the same by both, and so is all that may be asked after it. A step of 0 is Take, another number is Free of it.
func (p *pair) step(t *testing.T, h int) {
	t.Helper()
	if h == 0 {
		want, _ := p.w.take()
		takeIs(t, p.a, want)
	} else {
		freeIs(t, p.a, h, p.w.free(h))
	}
	want := p.w.live()
	if list := p.a.Live(); !slices.Equal(list, want) {
		t.Fatalf("Live is %v, not %v", list, want)
	}
	for h := -1; h < 70; h++ {
		isIs(t, p.a, h, slices.Contains(want, h))
	}
}

// P6.1: all lives of small arenas up to six steps, each of them Take or Free of one of the handles that come first.
func TestAllShortLives(t *testing.T) {
	steps := []int{0, 1, 2, 3, 17, 18, 33}
	for most := range 4 {
		var grow func(life []int)
		grow = func(life []int) {
			if len(life) == 6 {
				p := pair{arena.New(most), told{most: most}}
				for _, h := range life {
					p.step(t, h)
				}
				return
			}
			for _, h := range steps {
				// To begin by giving back is refused, and tells no more than a shorter life does.
				if h == 0 || len(life) > 0 {
					grow(append(life, h))
				}
			}
		}
		grow(nil)
	}
}

// P6.1: long lives, with handles that are live, stale, and none.
func TestManyLongLives(t *testing.T) {
	source := rand.New(rand.NewSource(6))
	for round := range 60 {
		most := round % 17
		p := pair{arena.New(most), told{most: most}}
		for range 150 {
			live := p.w.live()
			switch k := source.Intn(8); {
			case k < 4:
				p.step(t, 0)
			case k < 7 && len(live) > 0:
				p.step(t, live[source.Intn(len(live))])
			default:
				p.step(t, 1+source.Intn(64))
			}
		}
	}
}

// P6.1 with R1: a nil arena has no places, nor has one that nobody made.
func TestNoArena(t *testing.T) {
	for _, a := range []*arena.Arena{nil, {}} {
		for range 2 {
			takeIs(t, a, 0)
			liveIs(t, a)
			for _, h := range append([]int{1, 2, 16, 17, 4096}, never...) {
				freeIs(t, a, h, false)
			}
		}
	}
}

// R4: whoever is handed a list may write to it, and into its spare room, and changes no other list and no arena.
func TestListsAreNewMemory(t *testing.T) {
	a := arena.New(5)
	for h := 1; h <= 3; h++ {
		takeIs(t, a, h)
	}
	one, other := a.Live(), a.Live()
	whole := one[:cap(one)]
	for i := range whole {
		whole[i] = -7
	}
	_ = append(one, 8, 9)
	if !slices.Equal(other, []int{1, 2, 3}) {
		t.Errorf("the other list became %v", other)
	}
	liveIs(t, a, 1, 2, 3)
	takeIs(t, a, 4)
	freeIs(t, a, 1, true)
	if !slices.Equal(other, []int{1, 2, 3}) {
		t.Errorf("the list followed the arena: %v", other)
	}
}

// R5: arenas keep nothing of each other, and asking changes nothing.
func TestArenasAreApart(t *testing.T) {
	a, b := arena.New(2), arena.New(2)
	takeIs(t, a, 1)
	liveIs(t, b)
	freeIs(t, b, 1, false)
	takeIs(t, b, 1)
	takeIs(t, b, 2)
	freeIs(t, b, 1, true)
	for range 3 {
		liveIs(t, a, 1)
		liveIs(t, b, 2)
	}
	takeIs(t, a, 2)
	takeIs(t, b, 17)
	takeIs(t, arena.New(2), 1)
}
