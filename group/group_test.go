package group_test

import (
	"maps"
	"math"
	"math/big"
	"math/rand"
	"slices"
	"strconv"
	"testing"

	"parclose/api"
	"parclose/group"
)

const most = 1 << 20

// Numbers that no task ever is.
var never = []int{math.MinInt, math.MinInt + 1, -1 << 62, -1<<32 + 1, -1 << 32, -17, -2, -1, 0}

// Tasks at their ends, handles of one place, and numbers alike in all but their highest bits.
var apart = []int{1, 2, 8, 9, 16, 17, 18, 33, 257, 4088, 1<<32 - 1, 1 << 32, 1<<32 + 1, 1<<32 + 17, 1 << 62, 1<<62 + 1, math.MaxInt - 1, math.MaxInt}

// Counts at their ends, and between.
var counts = []int{0, 1, 2, 3, 17, 255, 256, 4096, 65535, 65536, most/2 - 1, most / 2, most/2 + 1, most - 17, most - 2, most - 1, most}

// The calls that change something.
const (
	add = iota
	wait
	drop
	calls
)

var callNames = [calls]string{"Add", "Wait", "Drop"}

// The number is a task's, or Add's.
type step struct{ call, n int }

type answer struct {
	told []int
	e    api.Errno
	ok   bool
}

func do(g *group.Group, p step) answer {
	var a answer
	switch p.call {
	case add:
		a.told, a.e = g.Add(p.n)
	case wait:
		a.e = g.Wait(p.n)
	case drop:
		a.ok = g.Drop(p.n)
	}
	return a
}

func doIs(t *testing.T, g *group.Group, p step, want answer) {
	a := do(g, p)
	if !slices.Equal(a.told, want.told) || a.e != want.e || a.ok != want.ok {
		t.Helper()
		t.Fatalf("%s of %d is %v, not %v", callNames[p.call], p.n, a, want)
	}
}

func addIs(t *testing.T, g *group.Group, n int, told ...int) {
	t.Helper()
	doIs(t, g, step{add, n}, answer{told: told})
}

func addIsNot(t *testing.T, g *group.Group, n int, e api.Errno) {
	t.Helper()
	doIs(t, g, step{add, n}, answer{e: e})
}

func waitIs(t *testing.T, g *group.Group, task int, e api.Errno) {
	t.Helper()
	doIs(t, g, step{wait, task}, answer{e: e})
}

func dropIs(t *testing.T, g *group.Group, task int, ok bool) {
	t.Helper()
	doIs(t, g, step{drop, task}, answer{ok: ok})
}

func groupIs(t *testing.T, g *group.Group, count int, line ...int) {
	if n := g.Count(); n != count {
		t.Helper()
		t.Fatalf("Count is %d, not %d", n, count)
	}
	if list := g.Waits(); !slices.Equal(list, line) {
		t.Helper()
		t.Fatalf("Waits is %v, not %v", list, line)
	}
}

// With this count, for which these tasks wait, who came one behind the other.
func with(t *testing.T, count int, line ...int) *group.Group {
	t.Helper()
	g := group.New()
	addIs(t, g, count)
	for _, task := range line {
		waitIs(t, g, task, api.ErrWait)
	}
	groupIs(t, g, count, line...)
	return g
}

// Lines of none to five tasks, in no order of numbers.
func lines() [][]int {
	all := []int{5, 2, 18, 3, 9}
	var some [][]int
	for n := range len(all) + 1 {
		some = append(some, all[:n])
	}
	return some
}

// A line without one of those in it.
func without(line []int, n int) []int {
	return slices.Delete(slices.Clone(line), n, n+1)
}

// The count comes to 0, and so all are told; behind that nobody waits.
func goesBy(t *testing.T, g *group.Group, count int, line ...int) {
	t.Helper()
	groupIs(t, g, count, line...)
	addIs(t, g, -count, line...)
	isZero(t, g, line...)
}

// The count is 0: these tasks go on at once, and none of them waits by that.
func isZero(t *testing.T, g *group.Group, tasks ...int) {
	t.Helper()
	groupIs(t, g, 0)
	addIs(t, g, 0)
	addIsNot(t, g, -1, api.ErrMisuse)
	for _, task := range tasks {
		waitIs(t, g, task, api.OK)
		waitIs(t, g, task, api.OK)
		dropIs(t, g, task, false)
	}
	groupIs(t, g, 0)
}

// P16.1: the chapter's examples.
func TestExamples(t *testing.T) {
	g := group.New()
	addIs(t, g, 2)
	waitIs(t, g, 5, api.ErrWait)
	waitIs(t, g, 4, api.ErrWait)
	addIs(t, g, -1)
	addIs(t, g, -1, 5, 4)
	waitIs(t, g, 5, api.OK)
	addIsNot(t, g, -1, api.ErrMisuse)
}

// P16.1: a new one's count is 0, and nobody waits; so it is with a value that nobody made.
func TestNew(t *testing.T) {
	for _, g := range []*group.Group{group.New(), {}} {
		if g == nil {
			t.Fatal("New is nil")
		}
		for range 2 {
			isZero(t, g, apart...)
		}
		addIs(t, g, 1)
		waitIs(t, g, 7, api.ErrWait)
		goesBy(t, g, 1, 7)
	}
}

// P16.1: numbers below 1 are no tasks, whatever the count is, and whoever waits; nothing changes.
func TestNoTask(t *testing.T) {
	for _, count := range counts[1:] {
		for _, line := range lines() {
			g := with(t, count, line...)
			isNoTask(t, g)
			goesBy(t, g, count, line...)
			isNoTask(t, g)
		}
	}
}

func isNoTask(t *testing.T, g *group.Group) {
	t.Helper()
	count, line := g.Count(), g.Waits()
	for _, task := range never {
		waitIs(t, g, task, api.ErrArg)
		waitIs(t, g, task, api.ErrArg)
		dropIs(t, g, task, false)
		groupIs(t, g, count, line...)
	}
}

// Numbers at their ends, and such that come from the count to 0, to the most, and beside them.
func numbers(count int) []int {
	all := []int{math.MinInt, math.MinInt + 1, math.MinInt + count, math.MinInt + most, -1 << 62, -1 << 32, -1 << 31,
		math.MaxInt, math.MaxInt - 1, math.MaxInt - count, math.MaxInt - count + 1, math.MaxInt - most, 1 << 62, 1 << 32, 1 << 31}
	for _, mid := range []int{-most, -count, 0, most - count, most} {
		all = append(all, mid-1, mid, mid+1)
	}
	return append(all, 1<<32-count, -1<<32-count, count-most, count)
}

// Whether the count and a number together are a count, held against sums without bound.
func sum(count, n int) (int, api.Errno) {
	all := new(big.Int).Add(big.NewInt(int64(count)), big.NewInt(int64(n)))
	switch {
	case all.Sign() < 0:
		return 0, api.ErrMisuse
	case all.Cmp(big.NewInt(most)) > 0:
		return 0, api.ErrOver
	}
	return int(all.Int64()), api.OK
}

// P16.1: the sum is one without bound, from 0 to 2^20: what is below, or above, changes nothing, and at 0 alone all that waited are told.
func TestAdd(t *testing.T) {
	for _, count := range counts {
		for _, line := range lines() {
			if count == 0 {
				line = nil
			}
			for _, n := range numbers(count) {
				g := with(t, count, line...)
				is, e := sum(count, n)
				switch {
				case e != api.OK:
					addIsNot(t, g, n, e)
					addIsNot(t, g, n, e)
					goesBy(t, g, count, line...)
				case is == 0:
					addIs(t, g, n, line...)
					isZero(t, g, line...)
				default:
					addIs(t, g, n)
					goesBy(t, g, is, line...)
				}
			}
		}
	}
}

// P16.1: all numbers from below 0 to above the most are added up, one by one, up and down.
func TestAddOneByOne(t *testing.T) {
	g := group.New()
	for n := range most {
		addIs(t, g, 1)
		if n == 0 {
			waitIs(t, g, 3, api.ErrWait)
		}
		groupIs(t, g, n+1, 3)
	}
	addIsNot(t, g, 1, api.ErrOver)
	for n := most; n > 1; n-- {
		groupIs(t, g, n, 3)
		addIs(t, g, -1)
	}
	goesBy(t, g, 1, 3)
}

// P16.1: while the count is not 0, whatever it is, nobody is told.
func TestNotYet(t *testing.T) {
	for _, line := range lines() {
		g := with(t, 2, line...)
		for _, n := range []int{0, -1, 0, 3, -2, most - 2, -most + 1, 1, 5, -6} {
			count := g.Count() + n
			addIs(t, g, n)
			groupIs(t, g, count, line...)
		}
		goesBy(t, g, 1, line...)
	}
}

// P16.1: the count comes to 0, and up again, and each time those are told that waited since then.
func TestRoundAndRound(t *testing.T) {
	g := group.New()
	for n := range 40 {
		var line []int
		count := 1 + n*n
		addIs(t, g, count)
		for task := range n % 7 {
			line = append(line, 1+(n+task*3)%7)
			waitIs(t, g, line[task], api.ErrWait)
		}
		goesBy(t, g, count, line...)
		isZero(t, g, 1, 2, 3, 4, 5, 6, 7)
	}
}

// P16.1: those that wait stand in the order in which they came, whatever their numbers: all orders of four.
func TestWaitInOrder(t *testing.T) {
	for n := range 4 * 3 * 2 {
		rest, line := []int{5, 2, 18, 3}, []int(nil)
		for left := 4; left > 0; left-- {
			line = append(line, rest[n%left])
			rest = without(rest, n%left)
			n /= left
		}
		goesBy(t, with(t, 1+n, line...), 1+n, line...)
	}
}

// P16.1: between those that come the count goes up and down.
func TestWaitBetween(t *testing.T) {
	g := group.New()
	addIs(t, g, 5)
	waitIs(t, g, 9, api.ErrWait)
	addIs(t, g, -4)
	waitIs(t, g, 1, api.ErrWait)
	addIs(t, g, most-1)
	waitIs(t, g, 4, api.ErrWait)
	addIs(t, g, -most+1)
	waitIs(t, g, 2, api.ErrWait)
	goesBy(t, g, 1, 9, 1, 4, 2)
}

// P16.1: who waits, wherever in line, can not wait once more; nothing changes.
func TestWaitTwice(t *testing.T) {
	for _, count := range counts[1:] {
		for _, line := range lines() {
			g := with(t, count, line...)
			for range 2 {
				for _, task := range line {
					waitIs(t, g, task, api.ErrMisuse)
					groupIs(t, g, count, line...)
				}
			}
			goesBy(t, g, count, line...)
		}
	}
}

// P16.1: one that waits, wherever in line, is taken out of it, once; the others stay in order, and it can come again, as the last one.
func TestDrop(t *testing.T) {
	for _, line := range lines() {
		for n, task := range line {
			stays := without(line, n)
			g := with(t, 2, line...)
			dropIs(t, g, task, true)
			groupIs(t, g, 2, stays...)
			dropIs(t, g, task, false)
			goesBy(t, g, 2, stays...)
			isZero(t, g, task)
			g = with(t, 2, line...)
			dropIs(t, g, task, true)
			waitIs(t, g, task, api.ErrWait)
			waitIs(t, g, task, api.ErrMisuse)
			goesBy(t, g, 2, append(stays, task)...)
		}
	}
}

// P16.1: one that never came does not wait; nothing changes.
func TestDropOfNone(t *testing.T) {
	for _, line := range lines() {
		g := with(t, 3, line...)
		for _, task := range []int{1, 4, 7, 20, math.MaxInt} {
			dropIs(t, g, task, false)
			groupIs(t, g, 3, line...)
		}
		goesBy(t, g, 3, line...)
	}
}

// P16.1: when all that waited were dropped, in whatever order, the count stays, and nobody is told.
func TestDropAll(t *testing.T) {
	for _, line := range lines()[1:] {
		for first := range line {
			g := with(t, 4, line...)
			for n := range line {
				dropIs(t, g, line[(first+n)%len(line)], true)
			}
			goesBy(t, g, 4)
			isZero(t, g, line...)
		}
	}
}

// P16.1: any number from 1 on is a task, and none is taken for another one, nor is one below 1 that is like it in all but the sign.
func TestTasksApart(t *testing.T) {
	for _, one := range apart {
		for _, none := range []int{-one, ^one, one + math.MinInt} {
			g := with(t, 1, one)
			waitIs(t, g, none, api.ErrArg)
			dropIs(t, g, none, false)
			goesBy(t, g, 1, one)
		}
		for _, other := range apart {
			if other == one {
				continue
			}
			g := with(t, 1, one)
			waitIs(t, g, one, api.ErrMisuse)
			dropIs(t, g, other, false)
			waitIs(t, g, other, api.ErrWait)
			groupIs(t, g, 1, one, other)
			dropIs(t, g, one, true)
			groupIs(t, g, 1, other)
			waitIs(t, g, one, api.ErrWait)
			goesBy(t, g, 1, other, one)
		}
	}
	goesBy(t, with(t, 1, apart...), 1, apart...)
}

// P16.1: no number of those that wait is named that would be the most.
func TestMany(t *testing.T) {
	var line, stays []int
	for n := range 1000 {
		task := 1 + n*7%1000
		line = append(line, task)
		if task%3 != 0 {
			stays = append(stays, task)
		}
	}
	goesBy(t, with(t, most, line...), most, line...)
	g := with(t, 1, line...)
	for task := 999; task > 0; task -= 3 {
		dropIs(t, g, task, true)
	}
	goesBy(t, g, 1, stays...)
}

// Beside a Group: a sum without bound, and at which moment each one came that waits.
type model struct {
	count, moment int
	came          map[int]int
}

func newModel() *model { return &model{came: map[int]int{}} }

func (m *model) line() []int {
	return slices.SortedFunc(maps.Keys(m.came), func(a, b int) int { return m.came[a] - m.came[b] })
}

func (m *model) do(p step) answer {
	_, waits := m.came[p.n]
	switch {
	case p.call == add:
		return m.add(p.n)
	case p.call == drop:
		delete(m.came, p.n)
		return answer{ok: waits}
	case p.n < 1:
		return answer{e: api.ErrArg}
	case waits:
		return answer{e: api.ErrMisuse}
	case m.count == 0:
		return answer{e: api.OK}
	}
	m.moment++
	m.came[p.n] = m.moment
	return answer{e: api.ErrWait}
}

func (m *model) add(n int) answer {
	is, e := sum(m.count, n)
	if e != api.OK {
		return answer{e: e}
	}
	m.count = is
	if is > 0 {
		return answer{}
	}
	defer clear(m.came)
	return answer{told: m.line()}
}

func (m *model) is(t *testing.T, g *group.Group) {
	t.Helper()
	groupIs(t, g, m.count, m.line()...)
}

func (m *model) goesBy(t *testing.T, g *group.Group) {
	t.Helper()
	goesBy(t, g, m.count, m.line()...)
}

func (m *model) text() string {
	all := strconv.Itoa(m.count) + ":"
	for _, task := range m.line() {
		all += " " + strconv.Itoa(task)
	}
	return all
}

// P16.1: every call, by each of five tasks, another one and a number that is none, and with numbers of all kinds, in all states that the five come to while the count is one of six: all orders of some of them, and nobody at 0.
func TestAllStates(t *testing.T) {
	const tasks, states = 5, 1 + 5*(1+5+5*4+5*4*3+5*4*3*2+5*4*3*2*1)
	some := []int{0, 1, 2, 3, most - 1, most}
	all := []step{{add, math.MinInt}, {add, math.MaxInt}, {add, -most - 1}, {add, most + 1}}
	for n := -4; n <= 4; n++ {
		all = append(all, step{add, n})
	}
	for n := range 4 {
		all = append(all, step{add, most - n}, step{add, n - most})
	}
	for task := range tasks + 2 {
		all = append(all, step{wait, task}, step{drop, task})
	}
	paths, known := [][]step{nil}, map[string]bool{"0:": true}
	for n := 0; n < len(paths); n++ {
		for _, p := range all {
			g, m := group.New(), newModel()
			for _, earlier := range paths[n] {
				do(g, earlier)
				m.do(earlier)
			}
			doIs(t, g, p, m.do(p))
			state := m.text()
			if (p.call == add || p.n <= tasks) && slices.Contains(some, m.count) && !known[state] {
				known[state] = true
				paths = append(paths, append(slices.Clone(paths[n]), p))
			}
			m.goesBy(t, g)
		}
	}
	if len(paths) != states {
		t.Fatalf("%d states, not %d", len(paths), states)
	}
}

// To 0 the count comes seldom, as nobody waits then, and from there always up.
func next(source *rand.Rand, m *model, tasks, often int) step {
	p := step{source.Intn(calls), source.Intn(tasks + 1)}
	if source.Intn(3) == 0 {
		p.call = often
	}
	if m.count == 0 && source.Intn(3) > 0 {
		p.call = add
	}
	if p.call != add {
		return p
	}
	all := numbers(m.count)
	switch {
	case m.count == 0:
		p.n = counts[source.Intn(len(counts))]
	case source.Intn(12) == 0:
		p.n = -m.count
	case source.Intn(3) == 0:
		p.n = all[source.Intn(len(all))]
	default:
		p.n = source.Intn(9) - 4
	}
	return p
}

// P16.1: long lives, of few tasks and of many, by calls of which each is the most frequent in turn.
func TestManyLongLives(t *testing.T) {
	source := rand.New(rand.NewSource(16))
	for round := range 300 {
		g, m := group.New(), newModel()
		for range 300 {
			p := next(source, m, 1+round%14, round%calls)
			doIs(t, g, p, m.do(p))
			m.is(t, g)
		}
		m.goesBy(t, g)
	}
}

// P16.1 with R1: a nil Group has no count, and nobody waits for it.
func TestNoGroup(t *testing.T) {
	var g *group.Group
	for range 2 {
		for _, n := range slices.Concat(never, apart, counts, numbers(0)) {
			addIsNot(t, g, n, api.ErrArg)
			waitIs(t, g, n, api.ErrArg)
			dropIs(t, g, n, false)
			groupIs(t, g, 0)
		}
	}
}

// A list that was answered, spare room included, and what it was then.
type held struct{ list, was []int }

func holds(list []int) held {
	whole := list[:cap(list)]
	return held{whole, slices.Clone(whole)}
}

func spoil(whole []int) {
	for n := range whole {
		whole[n] = -7
	}
}

// R4: whoever is handed a list may write to it, and into its spare room: no other list and no Group changes by that, and no list changes later on.
func TestListsAreNewMemory(t *testing.T) {
	source := rand.New(rand.NewSource(4))
	for round := range 80 {
		g, m := group.New(), newModel()
		var spoilt, kept []held
		for range 200 {
			p := next(source, m, 3+round%13, round%calls)
			a := do(g, p)
			if want := m.do(p); !slices.Equal(a.told, want.told) {
				t.Fatalf("%s tells %v, not %v", callNames[p.call], a.told, want.told)
			}
			spoilt, kept = share(g, a.told, spoilt, kept, source)
			m.is(t, g)
			for _, h := range kept {
				if !slices.Equal(h.list, h.was) {
					t.Fatalf("a list became %v, not %v", h.list, h.was)
				}
			}
		}
		m.goesBy(t, g)
	}
}

// Each list that is answered now goes to those that spoil theirs again and again, or to those that keep it as it is.
func share(g *group.Group, told []int, spoilt, kept []held, source *rand.Rand) ([]held, []held) {
	for _, list := range [][]int{told, g.Waits(), g.Waits()} {
		if source.Intn(2) == 0 {
			kept = append(kept, holds(list))
		} else {
			spoilt = append(spoilt, holds(list))
		}
	}
	for _, h := range spoilt {
		spoil(h.list)
	}
	return spoilt[max(0, len(spoilt)-60):], kept[max(0, len(kept)-60):]
}

// R5: they keep nothing of each other, and asking changes nothing.
func TestApart(t *testing.T) {
	a, b := group.New(), group.New()
	addIs(t, a, 3)
	isZero(t, b, 1, 2)
	addIs(t, b, 1)
	waitIs(t, b, 2, api.ErrWait)
	waitIs(t, b, 1, api.ErrWait)
	waitIs(t, a, 1, api.ErrWait)
	waitIs(t, a, 2, api.ErrWait)
	for range 3 {
		groupIs(t, a, 3, 1, 2)
		groupIs(t, b, 1, 2, 1)
	}
	dropIs(t, a, 2, true)
	groupIs(t, b, 1, 2, 1)
	goesBy(t, b, 1, 2, 1)
	groupIs(t, a, 3, 1)
	isZero(t, group.New(), 1, 2)
	goesBy(t, a, 3, 1)
}

// R5: nor do several that live at once, wherever their rows grow.
func TestLivesApart(t *testing.T) {
	source := rand.New(rand.NewSource(5))
	for round := range 80 {
		groups := [3]*group.Group{group.New(), group.New(), group.New()}
		models := [3]*model{newModel(), newModel(), newModel()}
		for range 200 {
			n := source.Intn(len(groups))
			p := next(source, models[n], 3+round%13, round%calls)
			doIs(t, groups[n], p, models[n].do(p))
			for n, g := range groups {
				models[n].is(t, g)
			}
		}
		for n, g := range groups {
			models[n].goesBy(t, g)
		}
	}
}
