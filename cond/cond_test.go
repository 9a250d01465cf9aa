package cond_test

import (
	"maps"
	"math"
	"math/rand"
	"slices"
	"strconv"
	"testing"

	"parclose/api"
	"parclose/cond"
)

// Numbers that no task ever is.
var never = []int{math.MinInt, math.MinInt + 1, -1 << 62, -1<<32 + 1, -1 << 32, -17, -2, -1, 0}

// Tasks at their ends, handles of one place, and numbers alike in all but their highest bits.
var apart = []int{1, 2, 8, 9, 16, 17, 18, 33, 257, 4088, 1<<32 - 1, 1 << 32, 1<<32 + 1, 1<<32 + 17, 1 << 62, 1<<62 + 1, math.MaxInt - 1, math.MaxInt}

// The calls that change who waits.
const (
	wait = iota
	signal
	broadcast
	drop
	calls
)

var callNames = [calls]string{"Wait", "Signal", "Broadcast", "Drop"}

// Signal and Broadcast ask for no task.
type step struct{ call, task int }

// What a call answers: Signal's task is the only one of a list.
type answer struct {
	told []int
	e    api.Errno
	ok   bool
}

func do(c *cond.Cond, p step) answer {
	var a answer
	switch p.call {
	case wait:
		a.e = c.Wait(p.task)
	case signal:
		var task int
		task, a.ok = c.Signal()
		if task != 0 || a.ok {
			a.told = []int{task}
		}
	case broadcast:
		a.told = c.Broadcast()
	case drop:
		a.ok = c.Drop(p.task)
	}
	return a
}

func doIs(t *testing.T, c *cond.Cond, p step, want answer) {
	a := do(c, p)
	if !slices.Equal(a.told, want.told) || a.e != want.e || a.ok != want.ok {
		t.Helper()
		t.Fatalf("%s by task %d is %v, not %v", callNames[p.call], p.task, a, want)
	}
}

func waitIs(t *testing.T, c *cond.Cond, task int, e api.Errno) {
	t.Helper()
	doIs(t, c, step{wait, task}, answer{e: e})
}

func signalIs(t *testing.T, c *cond.Cond, task int) {
	t.Helper()
	doIs(t, c, step{call: signal}, answer{told: []int{task}, ok: true})
}

func signalIsNone(t *testing.T, c *cond.Cond) {
	t.Helper()
	doIs(t, c, step{call: signal}, answer{})
}

func broadcastIs(t *testing.T, c *cond.Cond, tasks ...int) {
	t.Helper()
	doIs(t, c, step{call: broadcast}, answer{told: tasks})
}

func dropIs(t *testing.T, c *cond.Cond, task int, ok bool) {
	t.Helper()
	doIs(t, c, step{drop, task}, answer{ok: ok})
}

func lineIs(t *testing.T, c *cond.Cond, line ...int) {
	if list := c.Waits(); !slices.Equal(list, line) {
		t.Helper()
		t.Fatalf("Waits is %v, not %v", list, line)
	}
}

// With these tasks, who came one behind the other.
func with(t *testing.T, line ...int) *cond.Cond {
	t.Helper()
	c := cond.New()
	for _, task := range line {
		waitIs(t, c, task, api.ErrWait)
	}
	lineIs(t, c, line...)
	return c
}

// Lines of none to five tasks, in no order of numbers.
func lines() [][]int {
	all := []int{5, 2, 18, 3, 9}
	var some [][]int
	for n := range len(all) + 1 {
		some = append(some, all[:n])
	}
	return some
}

// A line without one of those in it.
func without(line []int, n int) []int {
	return slices.Delete(slices.Clone(line), n, n+1)
}

// Each of them is told, the first one first, till nobody waits.
func goesBy(t *testing.T, c *cond.Cond, line ...int) {
	t.Helper()
	for n, task := range line {
		lineIs(t, c, line[n:]...)
		signalIs(t, c, task)
	}
	lineIs(t, c)
	signalIsNone(t, c)
	broadcastIs(t, c)
}

// P14.1: the chapter's examples.
func TestExamples(t *testing.T) {
	c := cond.New()
	waitIs(t, c, 3, api.ErrWait)
	waitIs(t, c, 1, api.ErrWait)
	waitIs(t, c, 2, api.ErrWait)
	dropIs(t, c, 1, true)
	signalIs(t, c, 3)
	broadcastIs(t, c, 2)
	signalIsNone(t, c)
}

// P14.1: nobody waits for a new one; nor does anybody for a value that nobody made.
func TestNew(t *testing.T) {
	for _, c := range []*cond.Cond{cond.New(), {}} {
		if c == nil {
			t.Fatal("New is nil")
		}
		for range 2 {
			for _, task := range slices.Concat(never, apart) {
				dropIs(t, c, task, false)
			}
			goesBy(t, c)
		}
		waitIs(t, c, 7, api.ErrWait)
		goesBy(t, c, 7)
	}
}

// P14.1: numbers below 1 are no tasks, whoever waits; nothing changes.
func TestNoTask(t *testing.T) {
	for _, line := range lines() {
		c := with(t, line...)
		for _, task := range never {
			waitIs(t, c, task, api.ErrArg)
			waitIs(t, c, task, api.ErrArg)
			dropIs(t, c, task, false)
			lineIs(t, c, line...)
		}
		goesBy(t, c, line...)
	}
}

// P14.1: who comes waits behind all others, whatever the numbers: all orders of four.
func TestWaitInOrder(t *testing.T) {
	for n := range 4 * 3 * 2 {
		rest, line := []int{5, 2, 18, 3}, []int(nil)
		for left := 4; left > 0; left-- {
			line = append(line, rest[n%left])
			rest = without(rest, n%left)
			n /= left
		}
		goesBy(t, with(t, line...), line...)
		broadcastIs(t, with(t, line...), line...)
	}
}

// P14.1: who waits, wherever in line, can not come once more; nothing changes.
func TestWaitTwice(t *testing.T) {
	for _, line := range lines() {
		c := with(t, line...)
		for range 2 {
			for _, task := range line {
				waitIs(t, c, task, api.ErrMisuse)
				lineIs(t, c, line...)
			}
		}
		goesBy(t, c, line...)
	}
}

// P14.1: the first one alone is told; it waits no more, and can come again, behind all others.
func TestSignal(t *testing.T) {
	for _, line := range lines()[1:] {
		c := with(t, line...)
		signalIs(t, c, line[0])
		lineIs(t, c, line[1:]...)
		dropIs(t, c, line[0], false)
		waitIs(t, c, line[0], api.ErrWait)
		waitIs(t, c, line[0], api.ErrMisuse)
		goesBy(t, c, append(slices.Clone(line[1:]), line[0])...)
	}
}

// P14.1: those that come again and again are told in turn.
func TestRoundAndRound(t *testing.T) {
	line := []int{3, 8, 1, 5}
	c := with(t, line...)
	for range 100 {
		signalIs(t, c, line[0])
		waitIs(t, c, line[0], api.ErrWait)
		line = append(line[1:], line[0])
		lineIs(t, c, line...)
	}
	goesBy(t, c, line...)
}

// P14.1: a word that nobody waits for is not kept for one that comes later.
func TestNoWordIsKept(t *testing.T) {
	c := cond.New()
	for range 3 {
		signalIsNone(t, c)
		broadcastIs(t, c)
		waitIs(t, c, 4, api.ErrWait)
		waitIs(t, c, 6, api.ErrWait)
		lineIs(t, c, 4, 6)
		signalIs(t, c, 4)
		broadcastIs(t, c, 6)
	}
}

// P14.1: all are told at once, in order; they wait no more, and can come again, in another order.
func TestBroadcast(t *testing.T) {
	for _, line := range lines() {
		c := with(t, line...)
		broadcastIs(t, c, line...)
		lineIs(t, c)
		signalIsNone(t, c)
		broadcastIs(t, c)
		for _, task := range line {
			dropIs(t, c, task, false)
		}
		back := slices.Clone(line)
		slices.Reverse(back)
		for _, task := range back {
			waitIs(t, c, task, api.ErrWait)
		}
		goesBy(t, c, back...)
	}
}

// P14.1: one that waits, wherever in line, is taken out of it, once; the others stay in order, and it can come again, as the last one.
func TestDrop(t *testing.T) {
	for _, line := range lines() {
		for n, task := range line {
			stays := without(line, n)
			c := with(t, line...)
			dropIs(t, c, task, true)
			lineIs(t, c, stays...)
			dropIs(t, c, task, false)
			goesBy(t, c, stays...)
			c = with(t, line...)
			dropIs(t, c, task, true)
			broadcastIs(t, c, stays...)
			c = with(t, line...)
			dropIs(t, c, task, true)
			waitIs(t, c, task, api.ErrWait)
			goesBy(t, c, append(stays, task)...)
		}
	}
}

// P14.1: who does not wait is not dropped; nothing changes.
func TestDropOfNone(t *testing.T) {
	for _, line := range lines() {
		c := with(t, line...)
		for _, task := range []int{1, 7, 20, math.MaxInt} {
			dropIs(t, c, task, false)
			lineIs(t, c, line...)
		}
		goesBy(t, c, line...)
	}
}

// P14.1: when all were dropped, in whatever order, nobody is told.
func TestDropAll(t *testing.T) {
	for _, line := range lines() {
		for first := range line {
			c := with(t, line...)
			for n := range line {
				dropIs(t, c, line[(first+n)%len(line)], true)
			}
			goesBy(t, c)
			waitIs(t, c, line[0], api.ErrWait)
			goesBy(t, c, line[0])
		}
	}
}

// P14.1: any number from 1 on is a task, and none is taken for another one.
func TestTasksApart(t *testing.T) {
	for _, one := range apart {
		for _, other := range apart {
			if other == one {
				continue
			}
			c := with(t, one)
			dropIs(t, c, other, false)
			waitIs(t, c, other, api.ErrWait)
			goesBy(t, c, one, other)
		}
	}
	goesBy(t, with(t, apart...), apart...)
	broadcastIs(t, with(t, apart...), apart...)
}

// P14.1: no number of those that wait is named that would be the most.
func TestMany(t *testing.T) {
	var line, stays []int
	for n := range 1000 {
		task := 1 + n*7%1000
		line = append(line, task)
		if task%3 != 0 {
			stays = append(stays, task)
		}
	}
	goesBy(t, with(t, line...), line...)
	broadcastIs(t, with(t, line...), line...)
	c := with(t, line...)
	for task := 999; task > 0; task -= 3 {
		dropIs(t, c, task, true)
	}
	goesBy(t, c, stays...)
}

// Beside a Cond: at which moment each one came that waits.
type model struct {
	came   map[int]int
	moment int
}

func newModel() *model { return &model{came: map[int]int{}} }

func (m *model) line() []int {
	return slices.SortedFunc(maps.Keys(m.came), func(a, b int) int { return m.came[a] - m.came[b] })
}

func (m *model) waits(task int) bool {
	_, ok := m.came[task]
	return ok
}

func (m *model) comes(task int) api.Errno {
	switch {
	case task < 1:
		return api.ErrArg
	case m.waits(task):
		return api.ErrMisuse
	}
	m.moment++
	m.came[task] = m.moment
	return api.ErrWait
}

func (m *model) do(p step) answer {
	line := m.line()
	switch {
	case p.call == wait:
		return answer{e: m.comes(p.task)}
	case p.call == broadcast:
		clear(m.came)
		return answer{told: line}
	case p.call == signal && len(line) > 0:
		delete(m.came, line[0])
		return answer{told: line[:1], ok: true}
	case p.call == drop && m.waits(p.task):
		delete(m.came, p.task)
		return answer{ok: true}
	}
	return answer{}
}

func text(line []int) string {
	var all string
	for _, task := range line {
		all += " " + strconv.Itoa(task)
	}
	return all
}

// P14.1: every call, by each of five tasks, another one and a number that is none, in all states that the five come to: all orders of some of them.
func TestAllStates(t *testing.T) {
	const tasks, states = 5, 1 + 5 + 5*4 + 5*4*3 + 5*4*3*2 + 5*4*3*2*1
	all := []step{{call: signal}, {call: broadcast}}
	for task := range tasks + 2 {
		all = append(all, step{wait, task}, step{drop, task})
	}
	paths, known := [][]step{nil}, map[string]bool{"": true}
	for n := 0; n < len(paths); n++ {
		for _, p := range all {
			c, m := cond.New(), newModel()
			for _, earlier := range paths[n] {
				do(c, earlier)
				m.do(earlier)
			}
			doIs(t, c, p, m.do(p))
			line := m.line()
			goesBy(t, c, line...)
			if p.task <= tasks && !known[text(line)] {
				known[text(line)] = true
				paths = append(paths, append(slices.Clone(paths[n]), p))
			}
		}
	}
	if len(paths) != states {
		t.Fatalf("%d states, not %d", len(paths), states)
	}
}

// Broadcast is seldom, as nobody waits behind it.
func next(source *rand.Rand, tasks, often int) step {
	p := step{source.Intn(calls), source.Intn(tasks + 1)}
	switch {
	case source.Intn(3) == 0:
		p.call = often
	case p.call == broadcast && source.Intn(5) > 0:
		p.call = wait
	}
	return p
}

// P14.1: long lives, of few tasks and of many, by calls of which each is the most frequent in turn.
func TestManyLongLives(t *testing.T) {
	source := rand.New(rand.NewSource(14))
	for round := range 280 {
		c, m := cond.New(), newModel()
		for range 300 {
			p := next(source, 1+round%14, round%calls)
			doIs(t, c, p, m.do(p))
			lineIs(t, c, m.line()...)
		}
		goesBy(t, c, m.line()...)
	}
}

// P14.1 with R1: a nil Cond is none, and nobody waits.
func TestNoCond(t *testing.T) {
	var c *cond.Cond
	for range 2 {
		for _, task := range slices.Concat(never, apart) {
			waitIs(t, c, task, api.ErrArg)
			dropIs(t, c, task, false)
			goesBy(t, c)
		}
	}
}

// A list that was answered, spare room included, and what it was then.
type held struct{ list, was []int }

func holds(list []int) held {
	whole := list[:cap(list)]
	return held{whole, slices.Clone(whole)}
}

func spoil(whole []int) {
	for n := range whole {
		whole[n] = -7
	}
}

// R4: whoever is handed a list may write to it, and into its spare room: no other list and no Cond changes by that, and no list changes later on.
func TestListsAreNewMemory(t *testing.T) {
	source := rand.New(rand.NewSource(4))
	for round := range 80 {
		c, m := cond.New(), newModel()
		var spoilt, kept []held
		for range 200 {
			p := next(source, 3+round%13, round%calls)
			a := do(c, p)
			if want := m.do(p); !slices.Equal(a.told, want.told) {
				t.Fatalf("%s tells %v, not %v", callNames[p.call], a.told, want.told)
			}
			spoilt, kept = share(c, a.told, spoilt, kept, source)
			lineIs(t, c, m.line()...)
			for _, h := range kept {
				if !slices.Equal(h.list, h.was) {
					t.Fatalf("a list became %v, not %v", h.list, h.was)
				}
			}
		}
		goesBy(t, c, m.line()...)
	}
}

// Each list that is answered now goes to those that spoil theirs again and again, or to those that keep it as it is.
func share(c *cond.Cond, told []int, spoilt, kept []held, source *rand.Rand) ([]held, []held) {
	for _, list := range [][]int{told, c.Waits(), c.Waits()} {
		if source.Intn(2) == 0 {
			kept = append(kept, holds(list))
		} else {
			spoilt = append(spoilt, holds(list))
		}
	}
	for _, h := range spoilt {
		spoil(h.list)
	}
	return spoilt[max(0, len(spoilt)-60):], kept[max(0, len(kept)-60):]
}

// R5: they keep nothing of each other, and asking changes nothing.
func TestApart(t *testing.T) {
	a, b := cond.New(), cond.New()
	waitIs(t, a, 1, api.ErrWait)
	lineIs(t, b)
	waitIs(t, b, 2, api.ErrWait)
	waitIs(t, b, 1, api.ErrWait)
	waitIs(t, a, 2, api.ErrWait)
	for range 3 {
		lineIs(t, a, 1, 2)
		lineIs(t, b, 2, 1)
	}
	dropIs(t, a, 2, true)
	lineIs(t, b, 2, 1)
	broadcastIs(t, b, 2, 1)
	lineIs(t, a, 1)
	lineIs(t, cond.New())
}

// R5: nor do several that live at once, wherever their rows grow.
func TestLivesApart(t *testing.T) {
	source := rand.New(rand.NewSource(5))
	for round := range 80 {
		conds := [3]*cond.Cond{cond.New(), cond.New(), cond.New()}
		models := [3]*model{newModel(), newModel(), newModel()}
		for range 200 {
			n := source.Intn(len(conds))
			p := next(source, 3+round%13, round%calls)
			doIs(t, conds[n], p, models[n].do(p))
			for n, c := range conds {
				lineIs(t, c, models[n].line()...)
			}
		}
		for n, c := range conds {
			goesBy(t, c, models[n].line()...)
		}
	}
}
