package mutex_test

import (
	"math"
	"math/rand"
	"slices"
	"testing"

	"parclose/api"
	"parclose/mutex"
)

// Numbers that no task ever is.
var never = []int{math.MinInt, math.MinInt + 1, -1 << 62, -1<<32 + 1, -1 << 32, -17, -2, -1, 0}

// Tasks at their ends, handles of one place, and numbers alike in all but their highest bits.
var apart = []int{1, 2, 8, 9, 16, 17, 18, 33, 257, 4088, 1<<32 - 1, 1 << 32, 1<<32 + 1, 1<<32 + 17, 1 << 62, 1<<62 + 1, math.MaxInt - 1, math.MaxInt}

func lockIs(t *testing.T, m *mutex.Mutex, task int, want api.Errno) {
	if e := m.Lock(task); e != want {
		t.Helper()
		t.Fatalf("Lock(%d) is %d, not %d", task, e, want)
	}
}

func tryIs(t *testing.T, m *mutex.Mutex, task int, want api.Errno) {
	if e := m.Try(task); e != want {
		t.Helper()
		t.Fatalf("Try(%d) is %d, not %d", task, e, want)
	}
}

func unlockIs(t *testing.T, m *mutex.Mutex, task, next int, want api.Errno) {
	if n, e := m.Unlock(task); n != next || e != want {
		t.Helper()
		t.Fatalf("Unlock(%d) is %d, %d, not %d, %d", task, n, e, next, want)
	}
}

func dropIs(t *testing.T, m *mutex.Mutex, task int, want bool) {
	if ok := m.Drop(task); ok != want {
		t.Helper()
		t.Fatalf("Drop(%d) is %v", task, ok)
	}
}

// The first one in line holds it, and the others wait; without a line nobody does either.
func lineIs(t *testing.T, m *mutex.Mutex, line ...int) {
	holder := first(line)
	if n := m.Holder(); n != holder {
		t.Helper()
		t.Fatalf("Holder is %d, not %d", n, holder)
	}
	if list := m.Waits(); !slices.Equal(list, line[min(1, len(line)):]) {
		t.Helper()
		t.Fatalf("Waits is %v, where the line is %v", list, line)
	}
}

// 0: there is none.
func first(line []int) int {
	if len(line) == 0 {
		return 0
	}
	return line[0]
}

// With these tasks, who came one behind the other.
func with(t *testing.T, line ...int) *mutex.Mutex {
	t.Helper()
	m := mutex.New()
	for n, task := range line {
		want := api.ErrWait
		if n == 0 {
			want = api.OK
		}
		lockIs(t, m, task, want)
	}
	lineIs(t, m, line...)
	return m
}

// Lines of none to four tasks, in no order of numbers.
func lines() [][]int {
	all := []int{5, 2, 18, 3}
	var some [][]int
	for n := range len(all) + 1 {
		some = append(some, all[:n])
	}
	return some
}

// A line without one of those in it.
func without(line []int, n int) []int {
	return slices.Delete(slices.Clone(line), n, n+1)
}

// Each of them lets it go, the first one first, till nobody holds it.
func goesBy(t *testing.T, m *mutex.Mutex, line ...int) {
	t.Helper()
	for n, task := range line {
		lineIs(t, m, line[n:]...)
		unlockIs(t, m, task, first(line[n+1:]), api.OK)
	}
	lineIs(t, m)
}

// P11.1, P11.2: the chapter's examples.
func TestExamples(t *testing.T) {
	m := mutex.New()
	lockIs(t, m, 1, api.OK)
	lockIs(t, m, 2, api.ErrWait)
	lockIs(t, m, 3, api.ErrWait)
	tryIs(t, m, 4, api.ErrBusy)
	lockIs(t, m, 1, api.ErrMisuse)
	dropIs(t, m, 2, true)
	unlockIs(t, m, 1, 3, api.OK)
	lineIs(t, m, 3)
}

// P11.1: nobody holds a new one, and nobody waits; nor does anybody of a value that nobody made.
func TestNew(t *testing.T) {
	for _, m := range []*mutex.Mutex{mutex.New(), {}} {
		if m == nil {
			t.Fatal("New is nil")
		}
		for _, task := range slices.Concat(never, apart) {
			dropIs(t, m, task, false)
		}
		for _, task := range apart {
			unlockIs(t, m, task, 0, api.ErrMisuse)
		}
		lineIs(t, m)
		lockIs(t, m, 7, api.OK)
		lineIs(t, m, 7)
	}
}

// P11.1: who comes first holds it, and the others wait in the order in which they came, whatever their numbers: all orders of four.
func TestLockInOrder(t *testing.T) {
	for n := range 4 * 3 * 2 {
		rest, line := []int{5, 2, 18, 3}, []int(nil)
		for left := 4; left > 0; left-- {
			line = append(line, rest[n%left])
			rest = without(rest, n%left)
			n /= left
		}
		goesBy(t, with(t, line...), line...)
	}
}

// P11.1: any number from 1 on is a task, and none is taken for another one.
func TestTasksApart(t *testing.T) {
	for _, one := range apart {
		for _, other := range apart {
			if other == one {
				continue
			}
			m := with(t, one)
			tryIs(t, m, other, api.ErrBusy)
			unlockIs(t, m, other, 0, api.ErrMisuse)
			dropIs(t, m, other, false)
			lockIs(t, m, other, api.ErrWait)
			goesBy(t, m, one, other)
		}
	}
	goesBy(t, with(t, apart...), apart...)
}

// P11.1: numbers below 1 are no tasks, whoever holds it and waits; nothing changes.
func TestNoTask(t *testing.T) {
	for _, line := range lines() {
		m := with(t, line...)
		for _, task := range never {
			lockIs(t, m, task, api.ErrArg)
			tryIs(t, m, task, api.ErrArg)
			unlockIs(t, m, task, 0, api.ErrArg)
			dropIs(t, m, task, false)
			lineIs(t, m, line...)
		}
		goesBy(t, m, line...)
	}
}

// P11.1: who holds it, or waits, wherever in line, can not lock it once more; nothing changes.
func TestLockTwice(t *testing.T) {
	for _, line := range lines() {
		m := with(t, line...)
		for _, task := range line {
			lockIs(t, m, task, api.ErrMisuse)
			tryIs(t, m, task, api.ErrMisuse)
			lineIs(t, m, line...)
		}
		goesBy(t, m, line...)
	}
}

// P11.1: it is tried by one that does not wait for it after that.
func TestTry(t *testing.T) {
	for _, line := range lines() {
		m := with(t, line...)
		if len(line) == 0 {
			tryIs(t, m, 9, api.OK)
			tryIs(t, m, 9, api.ErrMisuse)
			lockIs(t, m, 9, api.ErrMisuse)
			goesBy(t, m, 9)
			continue
		}
		for range 2 {
			tryIs(t, m, 9, api.ErrBusy)
			lineIs(t, m, line...)
		}
		dropIs(t, m, 9, false)
		unlockIs(t, m, 9, 0, api.ErrMisuse)
		lockIs(t, m, 9, api.ErrWait)
		goesBy(t, m, append(slices.Clone(line), 9)...)
		tryIs(t, m, 4, api.OK)
		lineIs(t, m, 4)
	}
}

// P11.1: who does not hold it can not let it go, be it one that waits; nothing changes.
func TestUnlockByAnother(t *testing.T) {
	for _, line := range lines() {
		m := with(t, line...)
		for n, task := range append(slices.Clone(line), 9, math.MaxInt) {
			if n > 0 || len(line) == 0 {
				unlockIs(t, m, task, 0, api.ErrMisuse)
				lineIs(t, m, line...)
			}
		}
		goesBy(t, m, line...)
	}
}

// P11.1: who let it go holds it no more and does not wait, so that it can come again, behind all others.
func TestUnlockTwice(t *testing.T) {
	for _, line := range lines()[1:] {
		m := with(t, line...)
		unlockIs(t, m, line[0], first(line[1:]), api.OK)
		unlockIs(t, m, line[0], 0, api.ErrMisuse)
		dropIs(t, m, line[0], false)
		lineIs(t, m, line[1:]...)
		again := append(slices.Clone(line[1:]), line[0])
		if len(again) == 1 {
			lockIs(t, m, line[0], api.OK)
		} else {
			tryIs(t, m, line[0], api.ErrBusy)
			lockIs(t, m, line[0], api.ErrWait)
		}
		goesBy(t, m, again...)
	}
}

// P11.1: who was handed it holds it, and waits no more.
func TestHandedOn(t *testing.T) {
	m := with(t, 6, 1, 4)
	unlockIs(t, m, 6, 1, api.OK)
	lineIs(t, m, 1, 4)
	dropIs(t, m, 1, false)
	lockIs(t, m, 1, api.ErrMisuse)
	tryIs(t, m, 6, api.ErrBusy)
	unlockIs(t, m, 4, 0, api.ErrMisuse)
	goesBy(t, m, 1, 4)
}

// P11.1: those that come again and again hold it in turn.
func TestRoundAndRound(t *testing.T) {
	line := []int{3, 8, 1, 5}
	m := with(t, line...)
	for range 100 {
		task := line[0]
		unlockIs(t, m, task, line[1], api.OK)
		lockIs(t, m, task, api.ErrWait)
		line = append(line[1:], task)
		lineIs(t, m, line...)
	}
}

// P11.1, P11.2: no number of those that wait is named that would be the most.
func TestManyWait(t *testing.T) {
	var line, stays []int
	for n := range 500 {
		task := 1 + n*7%500
		line = append(line, task)
		if task%3 != 0 || n == 0 {
			stays = append(stays, task)
		}
	}
	m := with(t, line...)
	for n := len(line) - 1; n > 0; n-- {
		if line[n]%3 == 0 {
			dropIs(t, m, line[n], true)
		}
	}
	goesBy(t, m, stays...)
}

// P11.2: one that waits, wherever in line, is taken out of it, once; the others stay in order.
func TestDrop(t *testing.T) {
	for _, line := range lines() {
		for n := 1; n < len(line); n++ {
			m, stays := with(t, line...), without(line, n)
			dropIs(t, m, line[n], true)
			lineIs(t, m, stays...)
			dropIs(t, m, line[n], false)
			unlockIs(t, m, line[n], 0, api.ErrMisuse)
			tryIs(t, m, line[n], api.ErrBusy)
			goesBy(t, m, stays...)
			// It can come again, as the last one.
			m = with(t, line...)
			dropIs(t, m, line[n], true)
			lockIs(t, m, line[n], api.ErrWait)
			goesBy(t, m, append(stays, line[n])...)
		}
	}
}

// P11.2: who holds it does not wait, nor does one that never came; nothing changes.
func TestDropOfNone(t *testing.T) {
	for _, line := range lines() {
		m := with(t, line...)
		for _, task := range []int{first(line), 9, 1, math.MaxInt, 0, -5} {
			dropIs(t, m, task, false)
			lineIs(t, m, line...)
		}
		goesBy(t, m, line...)
	}
}

// P11.2: when all that waited were dropped, it goes to nobody.
func TestDropAll(t *testing.T) {
	m := with(t, 4, 9, 2)
	dropIs(t, m, 9, true)
	dropIs(t, m, 2, true)
	goesBy(t, m, 4)
	lockIs(t, m, 2, api.OK)
	lineIs(t, m, 2)
}

// A mutex beside a line, of whom the first one holds it.
type pair struct {
	m    *mutex.Mutex
	line []int
}

// What is wrong when a task comes.
func (p *pair) wrong(task int) api.Errno {
	if task < 1 {
		return api.ErrArg
	}
	if slices.Contains(p.line, task) {
		return api.ErrMisuse
	}
	return api.OK
}

func (p *pair) lock(t *testing.T, task int) {
	want := p.wrong(task)
	if want == api.OK {
		p.line = append(p.line, task)
		if len(p.line) > 1 {
			want = api.ErrWait
		}
	}
	lockIs(t, p.m, task, want)
}

func (p *pair) try(t *testing.T, task int) {
	want := p.wrong(task)
	if want == api.OK && len(p.line) > 0 {
		want = api.ErrBusy
	}
	if want == api.OK {
		p.line = []int{task}
	}
	tryIs(t, p.m, task, want)
}

func (p *pair) unlock(t *testing.T, task int) {
	if task < 1 {
		unlockIs(t, p.m, task, 0, api.ErrArg)
		return
	}
	if first(p.line) != task {
		unlockIs(t, p.m, task, 0, api.ErrMisuse)
		return
	}
	p.line = without(p.line, 0)
	unlockIs(t, p.m, task, first(p.line), api.OK)
}

func (p *pair) drop(t *testing.T, task int) {
	n := slices.Index(p.line, task)
	if n > 0 {
		p.line = without(p.line, n)
	}
	dropIs(t, p.m, task, n > 0)
}

func (p *pair) step(t *testing.T, what, task int) {
	switch what {
	case 0:
		p.lock(t, task)
	case 1:
		p.try(t, task)
	case 2:
		p.unlock(t, task)
	default:
		p.drop(t, task)
	}
	lineIs(t, p.m, p.line...)
}

// P11.1, P11.2: all lives of four steps, of four tasks and a number that is none, with none to all of the tasks in line ahead.
func TestAllShortLives(t *testing.T) {
	const numbers, calls, length = 5, 4, 4
	lives := 1
	for range length {
		lives *= numbers * calls
	}
	for ahead := range numbers {
		for life := range lives {
			p := &pair{m: mutex.New()}
			for task := range ahead {
				p.lock(t, task+1)
			}
			for range length {
				p.step(t, life%calls, life/calls%numbers)
				life /= numbers * calls
			}
		}
	}
}

// P11.1, P11.2: long lives, of few tasks and of many, by calls of which each is the most frequent in turn.
func TestManyLongLives(t *testing.T) {
	source := rand.New(rand.NewSource(11))
	for round := range 240 {
		p, tasks := &pair{m: mutex.New()}, 1+round%12
		for range 300 {
			what, task := source.Intn(4), source.Intn(tasks+1)
			if source.Intn(3) == 0 {
				what = round % 4
			}
			// The one that holds it is seldom hit by chance.
			if what == 2 && source.Intn(2) == 0 {
				task = first(p.line)
			}
			p.step(t, what, task)
		}
	}
}

// P11.1, P11.2 with R1: a nil mutex is none, and nobody holds it or waits.
func TestNoMutex(t *testing.T) {
	var m *mutex.Mutex
	for range 2 {
		for _, task := range slices.Concat(never, apart) {
			lockIs(t, m, task, api.ErrArg)
			tryIs(t, m, task, api.ErrArg)
			unlockIs(t, m, task, 0, api.ErrArg)
			dropIs(t, m, task, false)
			lineIs(t, m)
		}
	}
}

// Whoever is handed a list writes to it, and into its spare room.
func spoil(list []int) {
	whole := list[:cap(list)]
	for n := range whole {
		whole[n] = -7
	}
	_ = append(list, -8, -9)
}

// R4: what is done to a list that was answered changes no other list and no mutex, and what is done to the mutex later changes no list.
func TestListsAreNewMemory(t *testing.T) {
	for _, line := range lines() {
		listsAreNew(t, with(t, line...), line)
		// Of those that were dropped there may be spare room, which is nobody's either.
		m := with(t, append(slices.Clone(line), 21, 22, 23, 24, 25, 26, 27, 28)...)
		if len(line) == 0 {
			line = []int{21}
		}
		for task := 28; task >= 22; task-- {
			dropIs(t, m, task, true)
		}
		if line[0] != 21 {
			dropIs(t, m, 21, true)
		}
		listsAreNew(t, m, line)
	}
}

func listsAreNew(t *testing.T, m *mutex.Mutex, line []int) {
	t.Helper()
	p := &pair{m: m, line: slices.Clone(line)}
	want := slices.Clone(line[min(1, len(line)):])
	spoil(m.Waits())
	lineIs(t, m, p.line...)
	one, other := m.Waits(), m.Waits()
	spoil(one)
	spoil(one[:0])
	lineIs(t, m, p.line...)
	for task := 30; task < 40; task++ {
		p.lock(t, task)
		spoil(one)
		lineIs(t, m, p.line...)
	}
	if !slices.Equal(other, want) {
		t.Fatalf("the other list became %v, not %v", other, want)
	}
	goesBy(t, m, p.line...)
	if !slices.Equal(other, want) {
		t.Fatalf("the other list became %v, not %v", other, want)
	}
}

// R5: mutexes keep nothing of each other, and asking changes nothing.
func TestMutexesAreApart(t *testing.T) {
	a, b := mutex.New(), mutex.New()
	lockIs(t, a, 1, api.OK)
	lineIs(t, b)
	lockIs(t, b, 2, api.OK)
	lockIs(t, b, 1, api.ErrWait)
	lockIs(t, a, 2, api.ErrWait)
	for range 3 {
		lineIs(t, a, 1, 2)
		lineIs(t, b, 2, 1)
	}
	dropIs(t, a, 2, true)
	lineIs(t, b, 2, 1)
	unlockIs(t, b, 2, 1, api.OK)
	lineIs(t, a, 1)
	lineIs(t, mutex.New())
}
