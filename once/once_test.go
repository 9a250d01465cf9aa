package once_test

import (
	"math"
	"math/rand"
	"slices"
	"strconv"
	"testing"

	"parclose/api"
	"parclose/once"
)

// Numbers that no task ever is.
var never = []int{math.MinInt, math.MinInt + 1, -1 << 62, -1<<32 + 1, -1 << 32, -17, -2, -1, 0}

// Tasks at their ends, handles of one place, and numbers alike in all but their highest bits.
var apart = []int{1, 2, 8, 9, 16, 17, 18, 33, 257, 4088, 1<<32 - 1, 1 << 32, 1<<32 + 1, 1<<32 + 17, 1 << 62, 1<<62 + 1, math.MaxInt - 1, math.MaxInt}

// The calls that change who is here.
const (
	begin = iota
	done
	drop
	calls
)

var callNames = [calls]string{"Begin", "Done", "Drop"}

type step struct{ call, task int }

// What a call answers; the flag is Begin's or Drop's.
type answer struct {
	told []int
	e    api.Errno
	ok   bool
}

func do(o *once.Once, p step) answer {
	var a answer
	switch p.call {
	case begin:
		a.ok, a.e = o.Begin(p.task)
	case done:
		a.told, a.e = o.Done(p.task)
	case drop:
		a.ok = o.Drop(p.task)
	}
	return a
}

func doIs(t *testing.T, o *once.Once, p step, want answer) {
	a := do(o, p)
	if !slices.Equal(a.told, want.told) || a.e != want.e || a.ok != want.ok {
		t.Helper()
		t.Fatalf("%s by task %d is %v, not %v", callNames[p.call], p.task, a, want)
	}
}

func firstIs(t *testing.T, o *once.Once, task int) {
	t.Helper()
	doIs(t, o, step{begin, task}, answer{ok: true})
}

// Not the first one to begin.
func beginIs(t *testing.T, o *once.Once, task int, e api.Errno) {
	t.Helper()
	doIs(t, o, step{begin, task}, answer{e: e})
}

func doneIs(t *testing.T, o *once.Once, task int, told ...int) {
	t.Helper()
	doIs(t, o, step{done, task}, answer{told: told})
}

func doneIsNot(t *testing.T, o *once.Once, task int, e api.Errno) {
	t.Helper()
	doIs(t, o, step{done, task}, answer{e: e})
}

func dropIs(t *testing.T, o *once.Once, task int, ok bool) {
	t.Helper()
	doIs(t, o, step{drop, task}, answer{ok: ok})
}

func stateIs(t *testing.T, o *once.Once, doer int, over bool, waits []int) {
	t.Helper()
	if n := o.Doer(); n != doer {
		t.Fatalf("Doer is %d, not %d", n, doer)
	}
	if is := o.Over(); is != over {
		t.Fatalf("Over is %v", is)
	}
	if list := o.Waits(); !slices.Equal(list, waits) {
		t.Fatalf("Waits is %v, not %v", list, waits)
	}
}

// It is not done: the first one in line does it, and the others wait; without a line nobody does either.
func lineIs(t *testing.T, o *once.Once, line ...int) {
	t.Helper()
	if len(line) == 0 {
		stateIs(t, o, 0, false, nil)
		return
	}
	stateIs(t, o, line[0], false, line[1:])
}

// It is done, so that nobody does it, or waits, or ever will.
func overIs(t *testing.T, o *once.Once) {
	t.Helper()
	stateIs(t, o, 0, true, nil)
}

// It is done, and stays so whatever these tasks ask for.
func staysOver(t *testing.T, o *once.Once, tasks ...int) {
	t.Helper()
	overIs(t, o)
	for _, task := range tasks {
		doneIsNot(t, o, task, api.ErrMisuse)
		dropIs(t, o, task, false)
		beginIs(t, o, task, api.OK)
		beginIs(t, o, task, api.OK)
		doneIsNot(t, o, task, api.ErrMisuse)
		dropIs(t, o, task, false)
		overIs(t, o)
	}
}

// With these tasks, who came one behind the other.
func with(t *testing.T, line ...int) *once.Once {
	t.Helper()
	o := once.New()
	for n, task := range line {
		if n == 0 {
			firstIs(t, o, task)
		} else {
			beginIs(t, o, task, api.ErrWait)
		}
	}
	lineIs(t, o, line...)
	return o
}

// Lines of none to five tasks, in no order of numbers.
func lines() [][]int {
	all := []int{5, 2, 18, 3, 9}
	var some [][]int
	for n := range len(all) + 1 {
		some = append(some, all[:n])
	}
	return some
}

// A line without one of those in it.
func without(line []int, n int) []int {
	return slices.Delete(slices.Clone(line), n, n+1)
}

// The first one does it to its end, and so all others are told; where there is none, task 6 comes ahead.
func goesBy(t *testing.T, o *once.Once, line ...int) {
	t.Helper()
	lineIs(t, o, line...)
	if len(line) == 0 {
		firstIs(t, o, 6)
		line = []int{6}
	}
	doneIs(t, o, line[0], line[1:]...)
	staysOver(t, o, line...)
}

// P15.1, P15.2: the chapter's examples.
func TestExamples(t *testing.T) {
	o := once.New()
	firstIs(t, o, 1)
	beginIs(t, o, 2, api.ErrWait)
	doneIsNot(t, o, 2, api.ErrMisuse)
	doneIs(t, o, 1, 2)
	beginIs(t, o, 3, api.OK)
	overIs(t, o)
}

// P15.1: a new one is not done, and nobody does it, or waits; so it is with a value that nobody made.
func TestNew(t *testing.T) {
	for _, o := range []*once.Once{once.New(), {}} {
		if o == nil {
			t.Fatal("New is nil")
		}
		for range 2 {
			for _, task := range apart {
				doneIsNot(t, o, task, api.ErrMisuse)
				dropIs(t, o, task, false)
				lineIs(t, o)
			}
		}
		goesBy(t, o)
	}
}

// P15.1, P15.2: numbers below 1 are no tasks, whoever does it and waits, and when it is done; nothing changes.
func TestNoTask(t *testing.T) {
	for _, line := range lines() {
		o := with(t, line...)
		isNoTask(t, o)
		goesBy(t, o, line...)
		isNoTask(t, o)
		overIs(t, o)
	}
}

func isNoTask(t *testing.T, o *once.Once) {
	t.Helper()
	doer, over, waits := o.Doer(), o.Over(), o.Waits()
	for _, task := range never {
		beginIs(t, o, task, api.ErrArg)
		beginIs(t, o, task, api.ErrArg)
		doneIsNot(t, o, task, api.ErrArg)
		dropIs(t, o, task, false)
		stateIs(t, o, doer, over, waits)
	}
}

// P15.1: who comes first does it, and the others wait in the order in which they came, whatever their numbers: all orders of four.
func TestBeginInOrder(t *testing.T) {
	for n := range 4 * 3 * 2 {
		rest, line := []int{5, 2, 18, 3}, []int(nil)
		for left := 4; left > 0; left-- {
			line = append(line, rest[n%left])
			rest = without(rest, n%left)
			n /= left
		}
		goesBy(t, with(t, line...), line...)
	}
}

// P15.1: who does it, or waits, wherever in line, can not begin it once more; nothing changes.
func TestBeginTwice(t *testing.T) {
	for _, line := range lines() {
		o := with(t, line...)
		for range 2 {
			for _, task := range line {
				beginIs(t, o, task, api.ErrMisuse)
				lineIs(t, o, line...)
			}
		}
		goesBy(t, o, line...)
	}
}

// P15.1: all that waited are told at once, in order, and wait no more; nobody does it any more, nor ever again.
func TestDone(t *testing.T) {
	for _, line := range lines()[1:] {
		o := with(t, line...)
		doneIs(t, o, line[0], line[1:]...)
		staysOver(t, o, line...)
		staysOver(t, o, 7, 1, math.MaxInt)
		staysOver(t, o, apart...)
	}
}

// P15.1: who does not do it can not have it done, be it one that waits; nothing changes.
func TestDoneByAnother(t *testing.T) {
	for _, line := range lines() {
		o := with(t, line...)
		for range 2 {
			for n, task := range append(slices.Clone(line), 7, 1, math.MaxInt) {
				if n > 0 || len(line) == 0 {
					doneIsNot(t, o, task, api.ErrMisuse)
					lineIs(t, o, line...)
				}
			}
		}
		goesBy(t, o, line...)
	}
}

// P15.1: once it is done, only the first call of it was.
func TestDoneTwice(t *testing.T) {
	o := with(t, 4, 8)
	doneIs(t, o, 4, 8)
	for range 3 {
		for _, task := range []int{4, 8, 3} {
			doneIsNot(t, o, task, api.ErrMisuse)
			overIs(t, o)
		}
	}
}

// P15.2: one that waits, wherever in line, is taken out of it, once; the others stay in order, and it can come again, as the last one.
func TestDrop(t *testing.T) {
	for _, line := range lines() {
		for n := 1; n < len(line); n++ {
			task, stays := line[n], without(line, n)
			o := with(t, line...)
			dropIs(t, o, task, true)
			lineIs(t, o, stays...)
			dropIs(t, o, task, false)
			doneIsNot(t, o, task, api.ErrMisuse)
			goesBy(t, o, stays...)
			staysOver(t, o, task)
			o = with(t, line...)
			dropIs(t, o, task, true)
			beginIs(t, o, task, api.ErrWait)
			beginIs(t, o, task, api.ErrMisuse)
			goesBy(t, o, append(stays, task)...)
		}
	}
}

// P15.2: who does it does not wait, nor does one that never came; nothing changes.
func TestDropOfNone(t *testing.T) {
	for _, line := range lines() {
		o := with(t, line...)
		for _, task := range append(slices.Clone(line[:min(1, len(line))]), 1, 7, 20, math.MaxInt) {
			dropIs(t, o, task, false)
			lineIs(t, o, line...)
		}
		goesBy(t, o, line...)
	}
}

// P15.2: when all that waited were dropped, in whatever order, nobody is told.
func TestDropAll(t *testing.T) {
	for _, line := range lines()[1:] {
		for first := range line {
			o, waits := with(t, line...), line[1:]
			for n := range waits {
				dropIs(t, o, waits[(first+n)%len(waits)], true)
			}
			goesBy(t, o, line[0])
			staysOver(t, o, waits...)
		}
	}
}

// P15.1, P15.2: any number from 1 on is a task, and none is taken for another one.
func TestTasksApart(t *testing.T) {
	for _, one := range apart {
		for _, other := range apart {
			if other == one {
				continue
			}
			o := with(t, one)
			doneIsNot(t, o, other, api.ErrMisuse)
			dropIs(t, o, other, false)
			beginIs(t, o, other, api.ErrWait)
			goesBy(t, o, one, other)
			o = with(t, 3, one)
			dropIs(t, o, other, false)
			beginIs(t, o, other, api.ErrWait)
			dropIs(t, o, one, true)
			lineIs(t, o, 3, other)
			beginIs(t, o, one, api.ErrWait)
			goesBy(t, o, 3, other, one)
		}
	}
	goesBy(t, with(t, apart...), apart...)
}

// P15.1, P15.2: no number of those that wait is named that would be the most.
func TestMany(t *testing.T) {
	line, stays := []int{2000}, []int{2000}
	for n := range 1000 {
		task := 1 + n*7%1000
		line = append(line, task)
		if task%3 != 0 {
			stays = append(stays, task)
		}
	}
	goesBy(t, with(t, line...), line...)
	o := with(t, line...)
	for task := 999; task > 0; task -= 3 {
		dropIs(t, o, task, true)
	}
	goesBy(t, o, stays...)
}

// Beside a Once: one line of all that are here, of whom the first one does it.
type model struct {
	line []int
	over bool
}

func (m *model) do(p step) answer {
	n := slices.Index(m.line, p.task)
	switch {
	case p.call == drop:
		return answer{ok: m.drop(n)}
	case p.task < 1:
		return answer{e: api.ErrArg}
	case p.call == done:
		return m.done(n)
	}
	return m.begin(p.task, n)
}

func (m *model) begin(task, n int) answer {
	if m.over {
		return answer{e: api.OK}
	}
	if n >= 0 {
		return answer{e: api.ErrMisuse}
	}
	m.line = append(m.line, task)
	if len(m.line) > 1 {
		return answer{e: api.ErrWait}
	}
	return answer{ok: true}
}

func (m *model) done(n int) answer {
	if n != 0 {
		return answer{e: api.ErrMisuse}
	}
	told := m.line[1:]
	m.line, m.over = nil, true
	return answer{told: told}
}

func (m *model) drop(n int) bool {
	if n < 1 {
		return false
	}
	m.line = without(m.line, n)
	return true
}

func (m *model) is(t *testing.T, o *once.Once) {
	t.Helper()
	if m.over {
		overIs(t, o)
	} else {
		lineIs(t, o, m.line...)
	}
}

func (m *model) goesBy(t *testing.T, o *once.Once) {
	t.Helper()
	if m.over {
		staysOver(t, o, 1, 2, 3, 7)
	} else {
		goesBy(t, o, m.line...)
	}
}

func (m *model) text() string {
	if m.over {
		return "over"
	}
	var all string
	for _, task := range m.line {
		all += " " + strconv.Itoa(task)
	}
	return all
}

// P15.1, P15.2: every call, by each of five tasks, another one and a number that is none, in all states that the five come to: all orders of some of them, and what is done.
func TestAllStates(t *testing.T) {
	const tasks, states = 5, 1 + 5 + 5*4 + 5*4*3 + 5*4*3*2 + 5*4*3*2*1 + 1
	paths, known := [][]step{nil}, map[string]bool{"": true}
	for n := 0; n < len(paths); n++ {
		for one := range calls * (tasks + 2) {
			p := step{one % calls, one / calls}
			o, m := once.New(), &model{}
			for _, earlier := range paths[n] {
				do(o, earlier)
				m.do(earlier)
			}
			doIs(t, o, p, m.do(p))
			m.is(t, o)
			state := m.text()
			m.goesBy(t, o)
			if p.task <= tasks && !known[state] {
				known[state] = true
				paths = append(paths, append(slices.Clone(paths[n]), p))
			}
		}
	}
	if len(paths) != states {
		t.Fatalf("%d states, not %d", len(paths), states)
	}
}

// By the one that does it Done is seldom, as nothing happens behind it.
func next(source *rand.Rand, m *model, tasks, often int) step {
	p := step{source.Intn(calls), source.Intn(tasks + 1)}
	if source.Intn(3) == 0 {
		p.call = often
	}
	if p.call == done && slices.Index(m.line, p.task) == 0 && source.Intn(20) > 0 {
		p.call = begin
	}
	return p
}

// P15.1, P15.2: long lives, of few tasks and of many, by calls of which each is the most frequent in turn.
func TestManyLongLives(t *testing.T) {
	source := rand.New(rand.NewSource(15))
	for round := range 600 {
		o, m := once.New(), &model{}
		behind := 0
		for n := 0; n < 300 && behind < 40; n++ {
			p := next(source, m, 1+round%14, round%calls)
			doIs(t, o, p, m.do(p))
			m.is(t, o)
			if m.over {
				behind++
			}
		}
		m.goesBy(t, o)
	}
}

// P15.1, P15.2 with R1: a nil Once is none, nobody does it, and it is never done.
func TestNoOnce(t *testing.T) {
	var o *once.Once
	for range 2 {
		for _, task := range slices.Concat(never, apart) {
			beginIs(t, o, task, api.ErrArg)
			doneIsNot(t, o, task, api.ErrArg)
			dropIs(t, o, task, false)
			lineIs(t, o)
		}
	}
}

// A list that was answered, spare room included, and what it was then.
type held struct{ list, was []int }

func holds(list []int) held {
	whole := list[:cap(list)]
	return held{whole, slices.Clone(whole)}
}

func spoil(whole []int) {
	for n := range whole {
		whole[n] = -7
	}
}

// R4: whoever is handed a list may write to it, and into its spare room: no other list and no Once changes by that, and no list changes later on.
func TestListsAreNewMemory(t *testing.T) {
	source := rand.New(rand.NewSource(4))
	var spoilt, kept []held
	for round := range 240 {
		o, m := once.New(), &model{}
		for n := 0; n < 100 && !m.over; n++ {
			p := next(source, m, 3+round%13, round%calls)
			a := do(o, p)
			if want := m.do(p); !slices.Equal(a.told, want.told) {
				t.Fatalf("%s tells %v, not %v", callNames[p.call], a.told, want.told)
			}
			spoilt, kept = share(o, a.told, spoilt, kept, source)
			m.is(t, o)
			for _, h := range kept {
				if !slices.Equal(h.list, h.was) {
					t.Fatalf("a list became %v, not %v", h.list, h.was)
				}
			}
		}
		m.goesBy(t, o)
	}
}

// Each list that is answered now goes to those that spoil theirs again and again, or to those that keep it as it is.
func share(o *once.Once, told []int, spoilt, kept []held, source *rand.Rand) ([]held, []held) {
	for _, list := range [][]int{told, o.Waits(), o.Waits()} {
		if source.Intn(2) == 0 {
			kept = append(kept, holds(list))
		} else {
			spoilt = append(spoilt, holds(list))
		}
	}
	for _, h := range spoilt {
		spoil(h.list)
	}
	return spoilt[max(0, len(spoilt)-60):], kept[max(0, len(kept)-60):]
}

// R4: what was told when it was done is one list, and no call tells it again, or who waited.
func TestWhatWasIsGone(t *testing.T) {
	o := with(t, 4, 8, 2)
	waited := o.Waits()
	told, _ := o.Done(4)
	spoil(waited)
	if !slices.Equal(told, []int{8, 2}) {
		t.Fatalf("Done tells %v", told)
	}
	staysOver(t, o, 4, 8, 2, 5)
	if !slices.Equal(told, []int{8, 2}) {
		t.Fatalf("what Done told became %v", told)
	}
}

// R5: they keep nothing of each other, and asking changes nothing.
func TestApart(t *testing.T) {
	a, b := once.New(), once.New()
	firstIs(t, a, 1)
	lineIs(t, b)
	firstIs(t, b, 2)
	beginIs(t, b, 1, api.ErrWait)
	beginIs(t, a, 2, api.ErrWait)
	for range 3 {
		lineIs(t, a, 1, 2)
		lineIs(t, b, 2, 1)
	}
	dropIs(t, a, 2, true)
	lineIs(t, b, 2, 1)
	doneIs(t, b, 2, 1)
	lineIs(t, a, 1)
	lineIs(t, once.New())
	goesBy(t, a, 1)
	lineIs(t, once.New())
}

// R5: nor do several that live at once, wherever their lines grow.
func TestLivesApart(t *testing.T) {
	source := rand.New(rand.NewSource(5))
	for round := range 120 {
		onces := [3]*once.Once{once.New(), once.New(), once.New()}
		models := [3]*model{{}, {}, {}}
		for range 150 {
			n := source.Intn(len(onces))
			p := next(source, models[n], 3+round%13, round%calls)
			doIs(t, onces[n], p, models[n].do(p))
			for n, o := range onces {
				models[n].is(t, o)
			}
		}
		for n, o := range onces {
			models[n].goesBy(t, o)
		}
	}
}
