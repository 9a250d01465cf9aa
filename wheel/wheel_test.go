package wheel_test

import (
	"math"
	"math/rand"
	"slices"
	"testing"

	"parclose/wheel"
)

// The last tick that there is.
const last = 1 << 62

// Numbers that no timer ever has.
var never = []int{math.MinInt, math.MinInt + 1, math.MinInt + 16, -1 << 32, -32, -17, -16, -15, -2, -1, 16, 17, 31, 32, 33, 1 << 32, 1<<32 + 1, 1 << 62, math.MaxInt - 16, math.MaxInt - 1, math.MaxInt}

func setIs(t *testing.T, w *wheel.Wheel, id, at int, want bool) {
	t.Helper()
	if ok := w.Set(id, at); ok != want {
		t.Fatalf("Set(%d, %d) is %v", id, at, ok)
	}
}

func stopIs(t *testing.T, w *wheel.Wheel, id int, want bool) {
	t.Helper()
	if ok := w.Stop(id); ok != want {
		t.Fatalf("Stop(%d) is %v", id, ok)
	}
}

// A tick below 0 that is wanted: it is not set.
func atIs(t *testing.T, w *wheel.Wheel, id, want int) {
	t.Helper()
	if at, ok := w.At(id); at != max(want, 0) || ok != (want >= 0) {
		t.Fatalf("At(%d) is %d, %v, not %d", id, at, ok, want)
	}
}

func dueIs(t *testing.T, w *wheel.Wheel, now int, want ...int) {
	t.Helper()
	if due := w.Due(now); !slices.Equal(due, want) {
		t.Fatalf("Due(%d) is %v, not %v", now, due, want)
	}
}

// A tick below 0 that is wanted: none is set.
func nextIs(t *testing.T, w *wheel.Wheel, want int) {
	t.Helper()
	if next, ok := w.Next(); next != max(want, 0) || ok != (want >= 0) {
		t.Fatalf("Next is %d, %v, not %d", next, ok, want)
	}
}

// All that may be asked without a change: the ticks of the first timers (below 0: not set), and that no other is set.
func timersAre(t *testing.T, w *wheel.Wheel, ticks ...int) {
	t.Helper()
	least := -1
	for id, at := range ticks {
		atIs(t, w, id, at)
		if at >= 0 && (least < 0 || at < least) {
			least = at
		}
	}
	for id := len(ticks); id < 20; id++ {
		atIs(t, w, id, -1)
	}
	for _, id := range never {
		atIs(t, w, id, -1)
	}
	nextIs(t, w, least)
}

// P8.1, P8.2: the chapter's examples.
func TestExamples(t *testing.T) {
	w := wheel.New(3)
	for _, c := range [][2]int{{0, 9}, {1, 4}, {2, 4}, {1, 4}} {
		setIs(t, w, c[0], c[1], true)
	}
	nextIs(t, w, 4)
	dueIs(t, w, 8, 2, 1)
	dueIs(t, w, 9, 0)
	dueIs(t, w, 10)
}

// P8.1: New's number at its ends: just the first timers are there, and none of them is set.
func TestNew(t *testing.T) {
	for _, c := range [][2]int{
		{0, 0}, {1, 1}, {2, 2}, {9, 9}, {15, 15}, {16, 16},
		{17, 16}, {32, 16}, {1 << 32, 16}, {math.MaxInt, 16}, {-1, 0}, {-16, 0}, {-1 << 32, 0}, {math.MinInt, 0},
	} {
		w := wheel.New(c[0])
		if w == nil {
			t.Fatalf("New(%d) is nil", c[0])
		}
		timersAre(t, w)
		dueIs(t, w, math.MaxInt)
		for id := -1; id < 20; id++ {
			there := 0 <= id && id < c[1]
			stopIs(t, w, id, false)
			setIs(t, w, id, 5, there)
			stopIs(t, w, id, there)
		}
		timersAre(t, w)
	}
}

// P8.1: timers that there are not are refused, and nothing changes.
func TestNoSuchTimer(t *testing.T) {
	w := wheel.New(3)
	setIs(t, w, 0, 7, true)
	setIs(t, w, 2, 7, true)
	for _, id := range slices.Concat(never, []int{3, 4, 15}) {
		for _, at := range []int{0, 3, 7, math.MinInt, math.MaxInt} {
			setIs(t, w, id, at, false)
		}
		stopIs(t, w, id, false)
	}
	timersAre(t, w, 7, -1, 7)
	dueIs(t, w, 7, 0, 2)
}

// P8.1: a timer is due once, at the tick to which it was set last, be that earlier, later or the same.
func TestSetAgain(t *testing.T) {
	for _, c := range [][2]int{{5, 3}, {5, 8}, {5, 5}, {0, 5}, {5, 0}, {last, 4}, {4, last}} {
		w := wheel.New(2)
		setIs(t, w, 1, c[0], true)
		setIs(t, w, 1, c[1], true)
		timersAre(t, w, -1, c[1])
		if c[1] > 0 {
			dueIs(t, w, c[1]-1)
		}
		timersAre(t, w, -1, c[1])
		dueIs(t, w, c[1], 1)
		dueIs(t, w, last)
		timersAre(t, w, -1, -1)
	}
}

// P8.1: what is stopped is not due, and may be stopped again only when it was set again.
func TestStop(t *testing.T) {
	w := wheel.New(3)
	stopIs(t, w, 1, false)
	for id := range 3 {
		setIs(t, w, id, 6, true)
	}
	stopIs(t, w, 1, true)
	stopIs(t, w, 1, false)
	timersAre(t, w, 6, -1, 6)
	setIs(t, w, 1, 2, true)
	timersAre(t, w, 6, 2, 6)
	stopIs(t, w, 1, true)
	dueIs(t, w, 6, 0, 2)
	for id := range 3 {
		stopIs(t, w, id, false)
	}
	timersAre(t, w, -1, -1, -1)
}

// P8.1: a timer that was stopped, or due, has no tick left that another setting would bring back.
func TestSetAfterItWasOver(t *testing.T) {
	w := wheel.New(2)
	setIs(t, w, 0, 9, true)
	stopIs(t, w, 0, true)
	setIs(t, w, 0, 4, true)
	timersAre(t, w, 4, -1)
	dueIs(t, w, 4, 0)
	setIs(t, w, 0, 2, true)
	timersAre(t, w, 2, -1)
	// Time that went by is the caller's own: what is set to an earlier tick is due at once.
	dueIs(t, w, 4, 0)
}

// P8.1, P8.2: a number below 0 counts as tick 0, one above 2^62 as 2^62; what is set and what is asked for alike.
func TestTicksAtTheirEnds(t *testing.T) {
	for _, c := range [][2]int{
		{math.MinInt, 0}, {-last, 0}, {-1, 0}, {0, 0}, {1, 1},
		{last - 1, last - 1}, {last, last}, {last + 1, last}, {math.MaxInt, last},
	} {
		w := wheel.New(1)
		setIs(t, w, 0, c[0], true)
		timersAre(t, w, c[1])
		for _, now := range []int{math.MinInt, -1, 0, 1, 2, last - 2, last - 1, last, last + 1, math.MaxInt} {
			if min(max(now, 0), last) < c[1] {
				dueIs(t, w, now)
				timersAre(t, w, c[1])
				continue
			}
			dueIs(t, w, now, 0)
			timersAre(t, w, -1)
			setIs(t, w, 0, c[0], true)
		}
	}
}

// P8.2: numbers that count as one tick are of one tick: they are due in the order in which they were set.
func TestNumbersThatCountAsOneTick(t *testing.T) {
	w := wheel.New(6)
	for _, c := range [][2]int{{5, math.MaxInt}, {2, 0}, {3, last}, {4, -7}, {0, last + 1}, {1, math.MinInt}} {
		setIs(t, w, c[0], c[1], true)
	}
	dueIs(t, w, math.MinInt, 2, 4, 1)
	dueIs(t, w, last-1)
	dueIs(t, w, math.MaxInt, 5, 3, 0)
}

// P8.2: by their ticks, whatever the order in which they were set, and which timers they are.
func TestDueByTick(t *testing.T) {
	w := wheel.New(5)
	for _, c := range [][2]int{{0, 30}, {3, 10}, {1, 50}, {4, 20}, {2, 40}} {
		setIs(t, w, c[0], c[1], true)
	}
	dueIs(t, w, 9)
	dueIs(t, w, 29, 3, 4)
	timersAre(t, w, 30, 50, 40, -1, -1)
	setIs(t, w, 3, 45, true)
	dueIs(t, w, 100, 0, 2, 3, 1)
	dueIs(t, w, 100)
	timersAre(t, w, -1, -1, -1, -1, -1)
}

// P8.2: of one tick, all orders in which four timers are set; and who is set once more goes behind the others, though its tick is the same.
func TestDueOfOneTick(t *testing.T) {
	for n := range 4 * 3 * 2 {
		ids, order := []int{0, 1, 2, 3}, []int(nil)
		for left := 4; left > 0; left-- {
			place := n % left
			n /= left
			order = append(order, ids[place])
			ids = slices.Delete(ids, place, place+1)
		}
		for _, again := range order {
			w := wheel.New(4)
			for _, id := range order {
				setIs(t, w, id, 8, true)
			}
			setIs(t, w, again, 8, true)
			others := slices.DeleteFunc(slices.Clone(order), func(id int) bool { return id == again })
			dueIs(t, w, 8, append(others, again)...)
		}
	}
}

// P8.2: as many timers as there may be, due at one tick, and each at one of its own.
func TestTheMost(t *testing.T) {
	w := wheel.New(16)
	var order, falling, ticks []int
	for n := range 16 {
		id := n * 5 % 16
		setIs(t, w, id, 3, true)
		order = append(order, id)
		falling = append(falling, 15-n)
		ticks = append(ticks, 100-n)
	}
	dueIs(t, w, 3, order...)
	for id, at := range ticks {
		setIs(t, w, id, at, true)
	}
	timersAre(t, w, ticks...)
	dueIs(t, w, 100, falling...)
	timersAre(t, w)
}

// P8.2: the tick 0 and none are told apart.
func TestNextOfTickZero(t *testing.T) {
	w := wheel.New(3)
	nextIs(t, w, -1)
	setIs(t, w, 1, 6, true)
	setIs(t, w, 2, 0, true)
	setIs(t, w, 0, 3, true)
	nextIs(t, w, 0)
	dueIs(t, w, 0, 2)
	nextIs(t, w, 3)
	stopIs(t, w, 0, true)
	nextIs(t, w, 6)
	dueIs(t, w, 6, 1)
	nextIs(t, w, -1)
}

// A wheel beside a list, in the order in which they were set, of the timers that are set, with their ticks.
type pair struct {
	w      *wheel.Wheel
	timers int
	list   [][2]int
}

func newPair(timers int) *pair {
	return &pair{w: wheel.New(timers), timers: timers}
}

func (p *pair) find(id int) int {
	return slices.IndexFunc(p.list, func(c [2]int) bool { return c[0] == id })
}

func (p *pair) takeOut(place int) {
	p.list = slices.Delete(slices.Clone(p.list), place, place+1)
}

func (p *pair) set(t *testing.T, id, at int) {
	there := 0 <= id && id < p.timers
	if there {
		if place := p.find(id); place >= 0 {
			p.takeOut(place)
		}
		p.list = append(p.list, [2]int{id, min(max(at, 0), last)})
	}
	setIs(t, p.w, id, at, there)
}

func (p *pair) stop(t *testing.T, id int) {
	place := p.find(id)
	if place >= 0 {
		p.takeOut(place)
	}
	stopIs(t, p.w, id, place >= 0)
}

// The first one of the least tick, as long as there is one that is due.
func (p *pair) due(t *testing.T, now int) {
	var due []int
	for {
		least := p.least()
		if least < 0 || p.list[least][1] > max(now, 0) {
			dueIs(t, p.w, now, due...)
			return
		}
		due = append(due, p.list[least][0])
		p.takeOut(least)
	}
}

func (p *pair) least() int {
	least := -1
	for place, c := range p.list {
		if least < 0 || c[1] < p.list[least][1] {
			least = place
		}
	}
	return least
}

func (p *pair) step(t *testing.T, what, id, at int) {
	switch what {
	case 0:
		p.set(t, id, at)
	case 1:
		p.stop(t, id)
	default:
		p.due(t, at)
	}
}

// Of the timers that there are, and of those next to them.
func (p *pair) same(t *testing.T) {
	for id := -1; id <= p.timers; id++ {
		at := -1
		if place := p.find(id); place >= 0 {
			at = p.list[place][1]
		}
		atIs(t, p.w, id, at)
	}
	next := -1
	if least := p.least(); least >= 0 {
		next = p.list[least][1]
	}
	nextIs(t, p.w, next)
}

// P8.1, P8.2: all lives of four steps, of up to three timers and one that there is not, on three ticks, and all that is due at the end.
func TestAllShortLives(t *testing.T) {
	for timers := range 4 {
		var steps [][3]int
		for at := range 3 {
			steps = append(steps, [3]int{2, 0, at})
			for id := range timers + 1 {
				steps = append(steps, [3]int{0, id, at})
			}
		}
		for id := range timers + 1 {
			steps = append(steps, [3]int{1, id, 0})
		}
		allLives(t, timers, steps, 4)
	}
}

// All lives of so many steps.
func allLives(t *testing.T, timers int, steps [][3]int, length int) {
	life := make([]int, length)
	for {
		p := newPair(timers)
		for _, n := range life {
			p.step(t, steps[n][0], steps[n][1], steps[n][2])
		}
		p.same(t)
		p.due(t, 2)
		at := 0
		for at < length && life[at] == len(steps)-1 {
			life[at] = 0
			at++
		}
		if at == length {
			return
		}
		life[at]++
	}
}

// P8.1, P8.2: long lives, of few ticks and of many, also at time's ends.
func TestManyLongLives(t *testing.T) {
	source := rand.New(rand.NewSource(8))
	for round := range 160 {
		timers := 1 + round%16
		p := newPair(timers)
		for range 200 {
			what := []int{0, 0, 0, 0, 0, 1, 2}[source.Intn(7)]
			p.step(t, what, source.Intn(timers+2)-1, anyTick(source, round))
			p.same(t)
		}
		p.due(t, math.MaxInt)
		p.same(t)
	}
}

func anyTick(source *rand.Rand, round int) int {
	switch round % 4 {
	case 0:
		return source.Intn(4) - 1
	case 1:
		return source.Intn(40)
	case 2:
		return last - 3 + source.Intn(6)
	default:
		return int(source.Uint64())
	}
}

// R1: a nil wheel has no timers, nor has a value that nobody made.
func TestNoWheel(t *testing.T) {
	for _, w := range []*wheel.Wheel{nil, {}} {
		for range 2 {
			for _, n := range slices.Concat(never, []int{0, 1, 15}) {
				setIs(t, w, n, 0, false)
				setIs(t, w, 0, n, false)
				stopIs(t, w, n, false)
				dueIs(t, w, n)
			}
			timersAre(t, w)
		}
	}
}

// R4: whoever is handed a list may write to it, and into its spare room, and changes no other list and no timer.
func TestListsAreNewMemory(t *testing.T) {
	w := wheel.New(6)
	for _, id := range []int{4, 0, 2} {
		setIs(t, w, id, 5, true)
	}
	setIs(t, w, 1, 9, true)
	one := w.Due(5)
	whole := one[:cap(one)]
	for i := range whole {
		whole[i] = -7
	}
	_ = append(one, 8, 9)
	timersAre(t, w, -1, 9)
	for _, id := range []int{3, 5, 0} {
		setIs(t, w, id, 8, true)
	}
	other := w.Due(8)
	for i := range whole {
		whole[i] = -9
	}
	if !slices.Equal(other, []int{3, 5, 0}) {
		t.Errorf("the other list became %v", other)
	}
	for _, id := range []int{2, 4, 3} {
		setIs(t, w, id, 8, true)
	}
	dueIs(t, w, 9, 2, 4, 3, 1)
	if !slices.Equal(other, []int{3, 5, 0}) {
		t.Errorf("the other list became %v", other)
	}
}

// R5: wheels keep nothing of each other, and asking changes nothing.
func TestWheelsAreApart(t *testing.T) {
	a, b := wheel.New(2), wheel.New(2)
	setIs(t, a, 0, 4, true)
	timersAre(t, b, -1, -1)
	stopIs(t, b, 0, false)
	setIs(t, b, 1, 4, true)
	setIs(t, b, 0, 4, true)
	setIs(t, a, 1, 4, true)
	for range 3 {
		timersAre(t, a, 4, 4)
		timersAre(t, b, 4, 4)
	}
	dueIs(t, a, 4, 0, 1)
	timersAre(t, b, 4, 4)
	dueIs(t, b, 4, 1, 0)
	timersAre(t, wheel.New(2), -1, -1)
}
