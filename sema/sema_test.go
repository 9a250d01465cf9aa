package sema_test

import (
	"math"
	"math/rand"
	"slices"
	"strconv"
	"testing"

	"parclose/api"
	"parclose/sema"
)

// Numbers that no task ever is, nor ever a number of units.
var never = []int{math.MinInt, math.MinInt + 1, -1 << 62, -1<<32 + 1, -1 << 32, -17, -2, -1, 0}

// Tasks at their ends, handles of one place, and numbers alike in all but their highest bits.
var apart = []int{1, 2, 8, 9, 16, 17, 18, 33, 257, 4088, 1<<32 - 1, 1 << 32, 1<<32 + 1, 1<<32 + 17, 1 << 62, 1<<62 + 1, math.MaxInt - 1, math.MaxInt}

// Numbers of units that are more than there ever are, some of them alike to few in their lowest bits.
var tooMany = []int{17, 18, 32, 257, 1<<32 - 1, 1 << 32, 1<<32 + 1, 1 << 62, math.MaxInt - 16, math.MaxInt - 1, math.MaxInt}

// Units that are out, and a line of those that wait, beside a Sema.
type model struct {
	size, out int
	line      []want
}

type want struct{ task, units int }

func (m model) tasks() []int {
	var tasks []int
	for _, w := range m.line {
		tasks = append(tasks, w.task)
	}
	return tasks
}

func (m model) text() string {
	text := "size " + strconv.Itoa(m.size) + ", out " + strconv.Itoa(m.out) + ", line"
	for _, w := range m.line {
		text += " " + strconv.Itoa(w.task) + ":" + strconv.Itoa(w.units)
	}
	return text
}

// All that can be asked; for how many units each one waits can not.
func stateIs(t *testing.T, s *sema.Sema, m model) {
	if s.Size() != m.size || s.Free() != m.size-m.out || !slices.Equal(s.Waits(), m.tasks()) {
		t.Helper()
		t.Fatalf("size %d, free %d, waits %v, not %q", s.Size(), s.Free(), s.Waits(), m.text())
	}
}

// The calls that change who has units or waits.
const (
	acquire = iota
	try
	release
	drop
	calls
)

var callNames = [calls]string{"Acquire", "Try", "Release", "Drop"}

// Release asks for no task, and Drop for no units.
type step struct{ call, task, units int }

// What a call answers; of those that name nobody, nobody was served.
type answer struct {
	got []int
	e   api.Errno
	ok  bool
}

func do(s *sema.Sema, p step) answer {
	var a answer
	switch p.call {
	case acquire:
		a.e = s.Acquire(p.task, p.units)
	case try:
		a.e = s.Try(p.task, p.units)
	case release:
		a.got, a.e = s.Release(p.units)
	case drop:
		a.got, a.ok = s.Drop(p.task)
	}
	return a
}

func doIs(t *testing.T, s *sema.Sema, p step, want answer) {
	a := do(s, p)
	if !slices.Equal(a.got, want.got) || a.e != want.e || a.ok != want.ok {
		t.Helper()
		t.Fatalf("%s by task %d of %d units is %v, not %v", callNames[p.call], p.task, p.units, a, want)
	}
}

func acquireIs(t *testing.T, s *sema.Sema, task, units int, e api.Errno) {
	t.Helper()
	doIs(t, s, step{acquire, task, units}, answer{e: e})
}

func tryIs(t *testing.T, s *sema.Sema, task, units int, e api.Errno) {
	t.Helper()
	doIs(t, s, step{try, task, units}, answer{e: e})
}

func releaseIs(t *testing.T, s *sema.Sema, units int, e api.Errno, got ...int) {
	t.Helper()
	doIs(t, s, step{release, 0, units}, answer{got: got, e: e})
}

func dropIs(t *testing.T, s *sema.Sema, task int, ok bool, got ...int) {
	t.Helper()
	doIs(t, s, step{drop, task, 0}, answer{got: got, ok: ok})
}

// One unit after the other comes back till nobody waits, and so tells for how many each one does.
func goesBy(t *testing.T, s *sema.Sema, m model) {
	t.Helper()
	stateIs(t, s, m)
	m.line = slices.Clone(m.line)
	for len(m.line) > 0 {
		releaseIs(t, s, 1, api.OK, m.comeBack(1)...)
		stateIs(t, s, m)
	}
}

func (m model) made(t *testing.T) *sema.Sema {
	t.Helper()
	s := sema.New(m.size)
	if m.out > 0 {
		acquireIs(t, s, 1000, m.out, api.OK)
	}
	for _, w := range m.line {
		acquireIs(t, s, w.task, w.units, api.ErrWait)
	}
	stateIs(t, s, m)
	return s
}

// The longest front of the line for which there are units enough is served.
func (m *model) serve() []int {
	n, out := 0, m.out
	for n < len(m.line) && out+m.line[n].units <= m.size {
		out += m.line[n].units
		n++
	}
	got := m.tasks()[:n]
	m.out, m.line = out, slices.Clone(m.line[n:])
	return got
}

func (m *model) comeBack(units int) []int {
	m.out -= units
	return m.serve()
}

func (m model) without(n int) model {
	m.line = slices.Delete(slices.Clone(m.line), n, n+1)
	return m
}

func (m *model) comes(p step) api.Errno {
	switch {
	case p.task < 1 || p.units < 1 || p.units > m.size:
		return api.ErrArg
	case slices.Contains(m.tasks(), p.task):
		return api.ErrMisuse
	case len(m.line) == 0 && m.out+p.units <= m.size:
		m.out += p.units
		return api.OK
	case p.call == try:
		return api.ErrBusy
	}
	m.line = append(slices.Clone(m.line), want{p.task, p.units})
	return api.ErrWait
}

func (m *model) do(p step) answer {
	switch {
	case p.call == drop:
		n := slices.Index(m.tasks(), p.task)
		if n < 0 {
			return answer{}
		}
		*m = m.without(n)
		return answer{got: m.serve(), ok: true}
	case p.call != release:
		return answer{e: m.comes(p)}
	case p.units < 1 || p.units > m.size:
		return answer{e: api.ErrArg}
	case p.units > m.out:
		return answer{e: api.ErrOver}
	}
	return answer{got: m.comeBack(p.units)}
}

// In no order of numbers.
func states() []model {
	return []model{
		{size: 1},
		{size: 1, out: 1},
		{size: 1, out: 1, line: []want{{5, 1}}},
		{size: 1, out: 1, line: []want{{5, 1}, {2, 1}, {9, 1}}},
		{size: 4},
		{size: 4, out: 2},
		{size: 4, out: 4},
		{size: 4, out: 2, line: []want{{5, 3}}},
		{size: 4, out: 1, line: []want{{5, 4}, {2, 1}, {9, 2}}},
		{size: 4, out: 3, line: []want{{5, 2}, {2, 1}, {9, 4}, {3, 1}}},
		{size: 4, out: 4, line: []want{{5, 1}, {2, 1}, {9, 1}, {3, 1}, {8, 1}}},
		{size: 16},
		{size: 16, out: 1, line: []want{{5, 16}, {2, 16}}},
		{size: 16, out: 16, line: []want{{5, 9}, {2, 7}, {9, 1}}},
	}
}

// P13.1, P13.2: the chapter's examples.
func TestExamples(t *testing.T) {
	for _, dropped := range []bool{false, true} {
		s := sema.New(3)
		acquireIs(t, s, 1, 2, api.OK)
		acquireIs(t, s, 2, 2, api.ErrWait)
		acquireIs(t, s, 3, 1, api.ErrWait)
		if dropped {
			dropIs(t, s, 2, true, 3)
			stateIs(t, s, model{size: 3, out: 3})
			continue
		}
		releaseIs(t, s, 1, api.OK, 2)
		stateIs(t, s, model{size: 3, out: 3, line: []want{{3, 1}}})
		releaseIs(t, s, 2, api.OK, 3)
		stateIs(t, s, model{size: 3, out: 2})
	}
}

// P13.1, P13.3: as many units as are asked for, from 1 to 16, and all of them free.
func TestNew(t *testing.T) {
	sizes := slices.Concat(never, tooMany)
	for size := -40; size <= 60; size++ {
		sizes = append(sizes, size)
	}
	for _, size := range sizes {
		m := model{size: 16}
		switch {
		case size < 1:
			m.size = 1
		case size < 16:
			m.size = size
		}
		s := sema.New(size)
		if s == nil {
			t.Fatalf("New(%d) is nil", size)
		}
		stateIs(t, s, m)
		dropIs(t, s, 1, false)
		releaseIs(t, s, 1, api.ErrOver)
		releaseIs(t, s, m.size, api.ErrOver)
		tryIs(t, s, 1, m.size+1, api.ErrArg)
		tryIs(t, s, 1, m.size, api.OK)
		stateIs(t, s, model{size: m.size, out: m.size})
	}
}

// R1: a value that New did not make has no units.
func TestNotMade(t *testing.T) {
	var s sema.Sema
	for _, n := range slices.Concat(never, apart, tooMany) {
		acquireIs(t, &s, n, n, api.ErrArg)
		tryIs(t, &s, n, n, api.ErrArg)
		releaseIs(t, &s, n, api.ErrArg)
		dropIs(t, &s, n, false)
		stateIs(t, &s, model{})
	}
}

// P13.1, P13.2: numbers below 1 are no tasks, however many are free, and whoever waits; nothing changes.
func TestNoTask(t *testing.T) {
	for _, m := range states() {
		s := m.made(t)
		for _, task := range never {
			for units := -2; units <= m.size+2; units++ {
				acquireIs(t, s, task, units, api.ErrArg)
				tryIs(t, s, task, units, api.ErrArg)
			}
			dropIs(t, s, task, false)
			stateIs(t, s, m)
		}
		goesBy(t, s, m)
	}
}

// P13.1, P13.2: no units are taken or given back, nor more than there are, be it that the task waits, or that too many would be free; nothing changes.
func TestNoUnits(t *testing.T) {
	for _, m := range states() {
		s := m.made(t)
		for _, units := range slices.Concat(never, tooMany, []int{m.size + 1, m.size + 2}) {
			for _, task := range slices.Concat(m.tasks(), apart) {
				acquireIs(t, s, task, units, api.ErrArg)
				tryIs(t, s, task, units, api.ErrArg)
			}
			releaseIs(t, s, units, api.ErrArg)
			stateIs(t, s, m)
		}
		goesBy(t, s, m)
	}
}

// P13.1: who waits, wherever in line, can not come once more, be it for as many as are free; nothing changes.
func TestComesTwice(t *testing.T) {
	for _, m := range states() {
		s := m.made(t)
		for _, task := range m.tasks() {
			for units := 1; units <= m.size; units++ {
				acquireIs(t, s, task, units, api.ErrMisuse)
				tryIs(t, s, task, units, api.ErrMisuse)
				stateIs(t, s, m)
			}
		}
		goesBy(t, s, m)
	}
}

// P13.1: where nobody waits, as many as are free can be taken, by whoever takes them.
func TestTakes(t *testing.T) {
	for _, m := range states() {
		if len(m.line) > 0 {
			continue
		}
		for _, task := range []int{1, 1000, math.MaxInt} {
			for units := 1; units <= m.size-m.out; units++ {
				for _, call := range []int{acquire, try} {
					s := m.made(t)
					doIs(t, s, step{call, task, units}, answer{})
					stateIs(t, s, model{size: m.size, out: m.out + units})
				}
			}
		}
	}
}

// P13.1: where fewer are free, or somebody waits, be it for more than that, who comes waits behind all others, or has nothing.
func TestComesTooLate(t *testing.T) {
	for _, m := range states() {
		for units := 1; units <= m.size; units++ {
			if len(m.line) == 0 && units <= m.size-m.out {
				continue
			}
			s, then := m.made(t), m
			tryIs(t, s, 20, units, api.ErrBusy)
			tryIs(t, s, 20, units, api.ErrBusy)
			stateIs(t, s, m)
			acquireIs(t, s, 20, units, api.ErrWait)
			acquireIs(t, s, 10, 1, api.ErrWait)
			then.line = slices.Concat(m.line, []want{{20, units}, {10, 1}})
			goesBy(t, s, then)
		}
	}
}

// P13.2: where nobody waits, as many more are free, up to the size.
func TestReleaseWithoutALine(t *testing.T) {
	for size := 1; size <= 16; size++ {
		for out := range size + 1 {
			for units := 1; units <= size; units++ {
				m := model{size: size, out: out}
				s := m.made(t)
				if units > out {
					releaseIs(t, s, units, api.ErrOver)
				} else {
					releaseIs(t, s, units, api.OK)
					m.out -= units
				}
				stateIs(t, s, m)
			}
		}
	}
}

// P13.2: too many are too many, though those that wait would take them at once; nothing changes.
func TestReleaseOver(t *testing.T) {
	for _, m := range states() {
		s := m.made(t)
		for units := m.out + 1; units <= m.size; units++ {
			releaseIs(t, s, units, api.ErrOver)
			stateIs(t, s, m)
		}
		goesBy(t, s, m)
	}
}

// P13.2: the first ones are served, and nobody ahead of one that waits longer, be it that units are free then.
func TestReleaseServes(t *testing.T) {
	full := model{size: 4, out: 4, line: []want{{5, 2}, {2, 1}, {9, 4}, {3, 1}, {8, 1}}}
	for _, one := range []struct {
		units, out int
		got        []int
	}{
		{1, 3, nil},
		{2, 4, []int{5}},
		{3, 4, []int{5, 2}},
		{4, 3, []int{5, 2}},
	} {
		s := full.made(t)
		releaseIs(t, s, one.units, api.OK, one.got...)
		goesBy(t, s, model{size: 4, out: one.out, line: full.line[len(one.got):]})
	}
	s := full.made(t)
	releaseIs(t, s, 4, api.OK, 5, 2)
	releaseIs(t, s, 3, api.OK, 9)
	releaseIs(t, s, 4, api.OK, 3, 8)
	releaseIs(t, s, 2, api.OK)
	stateIs(t, s, model{size: 4})
}

// P13.2: all that wait can be served at once.
func TestReleaseServesAll(t *testing.T) {
	m, tasks := model{size: 16, out: 16}, []int(nil)
	for n := range 16 {
		tasks = append(tasks, 1+n*7%16)
		m.line = append(m.line, want{tasks[n], 1})
	}
	s := m.made(t)
	releaseIs(t, s, 16, api.OK, tasks...)
	stateIs(t, s, model{size: 16, out: 16})
	s = m.made(t)
	acquireIs(t, s, 20, 1, api.ErrWait)
	releaseIs(t, s, 16, api.OK, tasks...)
	stateIs(t, s, model{size: 16, out: 16, line: []want{{20, 1}}})
}

// P13.1, P13.2: who was served waits no more: it can not be dropped, but can come again, as the last one.
func TestServed(t *testing.T) {
	s := model{size: 2, out: 2, line: []want{{5, 1}, {2, 2}}}.made(t)
	releaseIs(t, s, 1, api.OK, 5)
	dropIs(t, s, 5, false)
	tryIs(t, s, 5, 1, api.ErrBusy)
	acquireIs(t, s, 5, 1, api.ErrWait)
	goesBy(t, s, model{size: 2, out: 2, line: []want{{2, 2}, {5, 1}}})
	tryIs(t, s, 5, 1, api.ErrBusy)
	releaseIs(t, s, 1, api.OK)
	tryIs(t, s, 5, 1, api.OK)
	stateIs(t, s, model{size: 2, out: 2})
}

// P13.1, P13.2: who takes units, and who gives them back, is not looked at.
func TestAnybody(t *testing.T) {
	s := sema.New(3)
	acquireIs(t, s, 1, 1, api.OK)
	acquireIs(t, s, 1, 1, api.OK)
	tryIs(t, s, 1, 1, api.OK)
	acquireIs(t, s, 1, 2, api.ErrWait)
	acquireIs(t, s, 2, 1, api.ErrWait)
	releaseIs(t, s, 3, api.OK, 1, 2)
	releaseIs(t, s, 3, api.OK)
	stateIs(t, s, model{size: 3})
}

// P13.2: without the first one, those are served for whom there are units now, and without another one, nobody is.
func TestDrop(t *testing.T) {
	m := model{size: 4, out: 2, line: []want{{5, 4}, {2, 1}, {9, 1}, {3, 1}}}
	for _, one := range []struct {
		task int
		got  []int
		then model
	}{
		{5, []int{2, 9}, model{size: 4, out: 4, line: []want{{3, 1}}}},
		{2, nil, model{size: 4, out: 2, line: []want{{5, 4}, {9, 1}, {3, 1}}}},
		{9, nil, model{size: 4, out: 2, line: []want{{5, 4}, {2, 1}, {3, 1}}}},
		{3, nil, model{size: 4, out: 2, line: []want{{5, 4}, {2, 1}, {9, 1}}}},
	} {
		s := m.made(t)
		dropIs(t, s, one.task, true, one.got...)
		stateIs(t, s, one.then)
		dropIs(t, s, one.task, false)
		goesBy(t, s, one.then)
	}
}

// P13.2: if the next one waits for more than are free, nobody is served, though a later one could be.
func TestDropServesNobody(t *testing.T) {
	s := model{size: 4, out: 2, line: []want{{5, 3}, {2, 4}, {9, 1}}}.made(t)
	dropIs(t, s, 5, true)
	stateIs(t, s, model{size: 4, out: 2, line: []want{{2, 4}, {9, 1}}})
	dropIs(t, s, 2, true, 9)
	stateIs(t, s, model{size: 4, out: 3})
	s = model{size: 1, out: 1, line: []want{{5, 1}, {2, 1}}}.made(t)
	dropIs(t, s, 5, true)
	goesBy(t, s, model{size: 1, out: 1, line: []want{{2, 1}}})
}

// P13.2: who does not wait is not dropped; nothing changes.
func TestDropOfNone(t *testing.T) {
	for _, m := range states() {
		s := m.made(t)
		for _, task := range []int{1000, 20, math.MaxInt} {
			dropIs(t, s, task, false)
			stateIs(t, s, m)
		}
		goesBy(t, s, m)
	}
}

// P13.2: who was dropped, wherever in line, can come again as the last one, for another number of units.
func TestComesAfterDrop(t *testing.T) {
	for _, m := range states() {
		for n, w := range m.line {
			if n == 0 {
				continue
			}
			for units := 1; units <= m.size; units++ {
				s, then := m.made(t), m.without(n)
				dropIs(t, s, w.task, true)
				tryIs(t, s, w.task, units, api.ErrBusy)
				acquireIs(t, s, w.task, units, api.ErrWait)
				then.line = append(then.line, want{w.task, units})
				goesBy(t, s, then)
			}
		}
	}
}

// P13.1: any number from 1 on is a task, and none is taken for another one.
func TestTasksApart(t *testing.T) {
	m := model{size: 2, out: 2}
	for n, one := range apart {
		for _, other := range apart {
			if other == one {
				continue
			}
			s := model{size: 2, out: 2, line: []want{{one, 2}}}.made(t)
			dropIs(t, s, other, false)
			tryIs(t, s, other, 1, api.ErrBusy)
			acquireIs(t, s, other, 1, api.ErrWait)
			goesBy(t, s, model{size: 2, out: 2, line: []want{{one, 2}, {other, 1}}})
		}
		m.line = append(m.line, want{one, 1 + n%2})
	}
	goesBy(t, m.made(t), m)
}

// P13.1, P13.2: no number of those that wait is named that would be the most.
func TestMany(t *testing.T) {
	m := model{size: 16, out: 16}
	for n := range 1000 {
		m.line = append(m.line, want{1 + n*7%1000, 1 + n*5%16})
	}
	goesBy(t, m.made(t), m)
	s := m.made(t)
	for len(m.line) > 0 {
		task := m.line[len(m.line)/2].task
		doIs(t, s, step{drop, task, 0}, m.do(step{drop, task, 0}))
		stateIs(t, s, m)
	}
}

// Every call, by those that wait and others, for every number of units, and some that are none.
func steps(size, tasks int) []step {
	all := []step{{call: release, units: -1}, {call: release}}
	for task := range tasks + 2 {
		all = append(all, step{drop, task, 0})
		for units := -1; units <= size+1; units++ {
			all = append(all, step{acquire, task, units}, step{try, task, units})
		}
	}
	for units := 1; units <= size+1; units++ {
		all = append(all, step{release, 0, units})
	}
	return all
}

// How many states so many tasks come to: k of them wait in an order, the first one for more than are free, each other one for any number of units.
func stateCount(size, tasks int) int {
	count, lines := size+1, size*(size+1)/2
	for k := range tasks {
		lines *= tasks - k
		count += lines
		lines *= size
	}
	return count
}

// P13.1, P13.2, P13.3: every call in all states that some tasks come to.
func TestAllStates(t *testing.T) {
	for _, one := range []struct{ size, tasks int }{{1, 5}, {2, 4}, {3, 3}, {4, 3}, {5, 2}, {16, 1}} {
		begin := model{size: one.size}
		paths, known := [][]step{nil}, map[string]bool{begin.text(): true}
		all := steps(one.size, one.tasks)
		for n := 0; n < len(paths); n++ {
			for _, p := range all {
				s, m := sema.New(one.size), begin
				for _, earlier := range paths[n] {
					do(s, earlier)
					m.do(earlier)
				}
				doIs(t, s, p, m.do(p))
				goesBy(t, s, m)
				if p.task <= one.tasks && !known[m.text()] {
					known[m.text()] = true
					paths = append(paths, append(slices.Clone(paths[n]), p))
				}
			}
		}
		if want := stateCount(one.size, one.tasks); len(paths) != want {
			t.Fatalf("%d states of %d units and %d tasks, not %d", len(paths), one.size, one.tasks, want)
		}
	}
}

// Mostly a number of units, or a task in line, that the call is meant for, as chance seldom hits one.
func (m model) next(source *rand.Rand, tasks, often int) step {
	p := step{source.Intn(calls), source.Intn(tasks + 1), source.Intn(m.size+3) - 1}
	if source.Intn(3) == 0 {
		p.call = often
	}
	switch {
	case source.Intn(4) == 0:
	case p.call == release:
		p.units = 1 + source.Intn(max(1, m.out))
	case p.call == drop && len(m.line) > 0:
		p.task = m.line[source.Intn(len(m.line))].task
	}
	return p
}

// P13.1, P13.2, P13.3: long lives, of few units and of many, of few tasks and of many, by calls of which each is the most frequent in turn.
func TestManyLongLives(t *testing.T) {
	source := rand.New(rand.NewSource(13))
	for round := range 320 {
		m := model{size: 1 + round%16}
		s := sema.New(m.size)
		for range 300 {
			p := m.next(source, 1+round%13, round/16%calls)
			doIs(t, s, p, m.do(p))
			stateIs(t, s, m)
		}
		goesBy(t, s, m)
	}
}

// P13.1, P13.2, P13.3 with R1: a nil Sema has no units, and nobody waits.
func TestNoSema(t *testing.T) {
	var s *sema.Sema
	for _, task := range slices.Concat(never, apart) {
		for _, units := range slices.Concat(never, apart, tooMany) {
			acquireIs(t, s, task, units, api.ErrArg)
			tryIs(t, s, task, units, api.ErrArg)
			releaseIs(t, s, units, api.ErrArg)
		}
		dropIs(t, s, task, false)
		stateIs(t, s, model{})
	}
}

// A list that was answered, spare room included, and what it was then.
type held struct{ list, was []int }

func holds(list []int) held {
	whole := list[:cap(list)]
	return held{whole, slices.Clone(whole)}
}

func spoil(whole []int) {
	for n := range whole {
		whole[n] = -7
	}
}

// R4: whoever is handed a list may write to it, and into its spare room: no other list and no Sema changes by that, and no list changes later on.
func TestListsAreNewMemory(t *testing.T) {
	source := rand.New(rand.NewSource(4))
	for round := range 80 {
		m := model{size: 1 + round%16}
		s := sema.New(m.size)
		var spoilt, kept []held
		for range 200 {
			p := m.next(source, 3+round%13, round/16%calls)
			a := do(s, p)
			if want := m.do(p); !slices.Equal(a.got, want.got) {
				t.Fatalf("%s serves %v, not %v", callNames[p.call], a.got, want.got)
			}
			spoilt, kept = share(s, a.got, spoilt, kept, source)
			stateIs(t, s, m)
			for _, h := range kept {
				if !slices.Equal(h.list, h.was) {
					t.Fatalf("a list became %v, not %v", h.list, h.was)
				}
			}
		}
		goesBy(t, s, m)
	}
}

// Each list that is answered now goes to those that spoil theirs again and again, or to those that keep it as it is.
func share(s *sema.Sema, got []int, spoilt, kept []held, source *rand.Rand) ([]held, []held) {
	for _, list := range [][]int{got, s.Waits(), s.Waits()} {
		if source.Intn(2) == 0 {
			kept = append(kept, holds(list))
		} else {
			spoilt = append(spoilt, holds(list))
		}
	}
	for _, h := range spoilt {
		spoil(h.list)
	}
	return spoilt[max(0, len(spoilt)-60):], kept[max(0, len(kept)-60):]
}

// R5: they keep nothing of each other, and asking changes nothing.
func TestApart(t *testing.T) {
	a, b := sema.New(2), sema.New(3)
	acquireIs(t, a, 1, 2, api.OK)
	stateIs(t, b, model{size: 3})
	acquireIs(t, b, 2, 3, api.OK)
	acquireIs(t, b, 1, 1, api.ErrWait)
	acquireIs(t, a, 2, 1, api.ErrWait)
	for range 3 {
		stateIs(t, a, model{size: 2, out: 2, line: []want{{2, 1}}})
		stateIs(t, b, model{size: 3, out: 3, line: []want{{1, 1}}})
	}
	dropIs(t, a, 2, true)
	stateIs(t, b, model{size: 3, out: 3, line: []want{{1, 1}}})
	releaseIs(t, b, 2, api.OK, 1)
	stateIs(t, a, model{size: 2, out: 2})
	stateIs(t, sema.New(2), model{size: 2})
}

// R5: nor do several that live at once, wherever their lines grow.
func TestLivesApart(t *testing.T) {
	source := rand.New(rand.NewSource(5))
	for round := range 80 {
		var semas [3]*sema.Sema
		var models [3]model
		for n := range semas {
			models[n].size = 1 + (round+n)%16
			semas[n] = sema.New(models[n].size)
		}
		for range 200 {
			n := source.Intn(len(semas))
			p := models[n].next(source, 3+round%13, round/16%calls)
			doIs(t, semas[n], p, models[n].do(p))
			for n, s := range semas {
				stateIs(t, s, models[n])
			}
		}
		for n, s := range semas {
			goesBy(t, s, models[n])
		}
	}
}
