package rw_test

import (
	"math"
	"math/rand"
	"slices"
	"strconv"
	"testing"

	"parclose/api"
	"parclose/rw"
)

// Numbers that no task ever is.
var never = []int{math.MinInt, math.MinInt + 1, -1 << 62, -1<<32 + 1, -1 << 32, -17, -2, -1, 0}

// Tasks at their ends, handles of one place, and numbers alike in all but their highest bits.
var apart = []int{1, 2, 8, 9, 16, 17, 18, 33, 257, 4088, 1<<32 - 1, 1 << 32, 1<<32 + 1, 1<<32 + 17, 1 << 62, 1<<62 + 1, math.MaxInt - 1, math.MaxInt}

// Who reads, writes (0: nobody) and waits.
type state struct {
	writer                   int
	readers, toWrite, toRead []int
}

func (s state) text() string {
	text := "writer " + strconv.Itoa(s.writer)
	for n, list := range [][]int{s.readers, s.toWrite, s.toRead} {
		text += []string{", readers", ", to write", ", to read"}[n]
		for _, task := range list {
			text += " " + strconv.Itoa(task)
		}
	}
	return text
}

func (s state) tasks() []int {
	all := slices.Concat(s.readers, s.toWrite, s.toRead)
	if s.writer != 0 {
		all = append(all, s.writer)
	}
	return all
}

func stateOf(x *rw.RW) state {
	toWrite, toRead := x.Waits()
	return state{x.Writer(), x.Readers(), toWrite, toRead}
}

func stateIs(t *testing.T, x *rw.RW, want state) {
	if text := stateOf(x).text(); text != want.text() {
		t.Helper()
		t.Fatalf("it is %q, not %q", text, want.text())
	}
}

// The calls that change who has it or waits.
const (
	rLock = iota
	tryR
	lock
	try
	rUnlock
	unlock
	drop
	calls
)

var callNames = [calls]string{"RLock", "TryR", "Lock", "Try", "RUnlock", "Unlock", "Drop"}

// What a call answers; of those that name nobody, nobody got it.
type answer struct {
	got []int
	e   api.Errno
	ok  bool
}

func do(x *rw.RW, call, task int) answer {
	var a answer
	switch call {
	case rLock:
		a.e = x.RLock(task)
	case tryR:
		a.e = x.TryR(task)
	case lock:
		a.e = x.Lock(task)
	case try:
		a.e = x.Try(task)
	case rUnlock:
		a.got, a.e = x.RUnlock(task)
	case unlock:
		a.got, a.e = x.Unlock(task)
	case drop:
		a.got, a.ok = x.Drop(task)
	}
	return a
}

func same(a, b answer) bool {
	return slices.Equal(a.got, b.got) && a.e == b.e && a.ok == b.ok
}

func doIs(t *testing.T, x *rw.RW, call, task int, want answer) {
	if a := do(x, call, task); !same(a, want) {
		t.Helper()
		t.Fatalf("%s(%d) is %v, not %v", callNames[call], task, a, want)
	}
}

// A call that answers an error alone, or OK and whom it was handed to.
func callIs(t *testing.T, x *rw.RW, call, task int, e api.Errno, got ...int) {
	t.Helper()
	doIs(t, x, call, task, answer{got: got, e: e})
}

func dropIs(t *testing.T, x *rw.RW, task int, ok bool, got ...int) {
	t.Helper()
	doIs(t, x, drop, task, answer{got: got, ok: ok})
}

// Those that have it come first, as the others then wait for them.
func (s state) made(t *testing.T) *rw.RW {
	t.Helper()
	x := rw.New()
	for _, task := range s.readers {
		callIs(t, x, rLock, task, api.OK)
	}
	if s.writer != 0 {
		callIs(t, x, lock, s.writer, api.OK)
	}
	for _, task := range s.toWrite {
		callIs(t, x, lock, task, api.ErrWait)
	}
	for _, task := range s.toRead {
		callIs(t, x, rLock, task, api.ErrWait)
	}
	stateIs(t, x, s)
	return x
}

// In no order of numbers.
func states() []state {
	return []state{
		{},
		{readers: []int{5}},
		{readers: []int{5, 2, 9}},
		{readers: []int{5}, toWrite: []int{3}},
		{readers: []int{5, 2}, toWrite: []int{3}, toRead: []int{8, 4}},
		{readers: []int{5, 2, 9}, toWrite: []int{3, 1, 6}, toRead: []int{8, 4, 12}},
		{writer: 7},
		{writer: 7, toWrite: []int{3}},
		{writer: 7, toWrite: []int{3, 1, 6}},
		{writer: 7, toRead: []int{8}},
		{writer: 7, toRead: []int{8, 4, 12}},
		{writer: 7, toWrite: []int{3, 1, 6}, toRead: []int{8, 4, 12}},
	}
}

// P12.1, P12.2, P12.3: the chapter's examples.
func TestExamples(t *testing.T) {
	for _, dropped := range []bool{false, true} {
		x := rw.New()
		callIs(t, x, rLock, 1, api.OK)
		callIs(t, x, lock, 2, api.ErrWait)
		callIs(t, x, rLock, 3, api.ErrWait)
		if dropped {
			dropIs(t, x, 2, true, 3)
			stateIs(t, x, state{readers: []int{1, 3}})
			continue
		}
		callIs(t, x, rUnlock, 1, api.OK, 2)
		stateIs(t, x, state{writer: 2, toRead: []int{3}})
		callIs(t, x, unlock, 2, api.OK, 3)
		stateIs(t, x, state{readers: []int{3}})
	}
}

// P12.1: nobody has a new one, and nobody waits; nor does anybody of a value that nobody made.
func TestNew(t *testing.T) {
	for _, x := range []*rw.RW{rw.New(), {}} {
		if x == nil {
			t.Fatal("New is nil")
		}
		for _, task := range apart {
			callIs(t, x, rUnlock, task, api.ErrMisuse)
			callIs(t, x, unlock, task, api.ErrMisuse)
			dropIs(t, x, task, false)
		}
		stateIs(t, x, state{})
		callIs(t, x, lock, 7, api.OK)
		stateIs(t, x, state{writer: 7})
	}
}

// P12.1: numbers below 1 are no tasks, whoever has it and waits; nothing changes.
func TestNoTask(t *testing.T) {
	for _, s := range states() {
		x := s.made(t)
		for _, task := range never {
			for call := range drop {
				callIs(t, x, call, task, api.ErrArg)
			}
			dropIs(t, x, task, false)
			stateIs(t, x, s)
		}
	}
}

// P12.1: who reads, writes or waits, for whatever, can not come once more; nothing changes.
func TestComesTwice(t *testing.T) {
	for _, s := range states() {
		x := s.made(t)
		for _, task := range s.tasks() {
			for _, call := range []int{rLock, tryR, lock, try} {
				callIs(t, x, call, task, api.ErrMisuse)
				stateIs(t, x, s)
			}
		}
	}
}

// P12.1: who comes to read does so beside others that do, but behind who writes, or waits to.
func TestComesToRead(t *testing.T) {
	for _, s := range states() {
		then := s
		if s.writer == 0 && len(s.toWrite) == 0 {
			then.readers = slices.Concat(s.readers, []int{20, 10})
			for _, first := range []int{rLock, tryR} {
				x := s.made(t)
				callIs(t, x, first, 20, api.OK)
				callIs(t, x, rLock+tryR-first, 10, api.OK)
				stateIs(t, x, then)
			}
			continue
		}
		x := s.made(t)
		callIs(t, x, tryR, 20, api.ErrBusy)
		callIs(t, x, tryR, 20, api.ErrBusy)
		stateIs(t, x, s)
		then.toRead = slices.Concat(s.toRead, []int{20, 10})
		callIs(t, x, rLock, 20, api.ErrWait)
		callIs(t, x, rLock, 10, api.ErrWait)
		stateIs(t, x, then)
	}
}

// P12.1: who comes to write does so alone.
func TestComesToWrite(t *testing.T) {
	for _, s := range states() {
		then := s
		if len(s.tasks()) == 0 {
			then.writer = 20
			for _, call := range []int{lock, try} {
				x := s.made(t)
				callIs(t, x, call, 20, api.OK)
				stateIs(t, x, then)
			}
			continue
		}
		x := s.made(t)
		callIs(t, x, try, 20, api.ErrBusy)
		callIs(t, x, try, 20, api.ErrBusy)
		stateIs(t, x, s)
		then.toWrite = slices.Concat(s.toWrite, []int{20, 10})
		callIs(t, x, lock, 20, api.ErrWait)
		callIs(t, x, lock, 10, api.ErrWait)
		stateIs(t, x, then)
	}
}

// P12.2: who does not read can not give up reading, nor who does not write writing, be it that it has or wants the other; nothing changes.
func TestGivesUpWhatItHasNot(t *testing.T) {
	for _, s := range states() {
		x := s.made(t)
		for _, task := range append(s.tasks(), 20, math.MaxInt) {
			if !slices.Contains(s.readers, task) {
				callIs(t, x, rUnlock, task, api.ErrMisuse)
			}
			if task != s.writer {
				callIs(t, x, unlock, task, api.ErrMisuse)
			}
			stateIs(t, x, s)
		}
	}
}

// P12.2: only who waits is dropped; who has it, or never came, is not; nothing changes.
func TestDropOfNone(t *testing.T) {
	for _, s := range states() {
		x := s.made(t)
		for _, task := range append(slices.Clone(s.readers), s.writer, 20, math.MaxInt) {
			dropIs(t, x, task, false)
			stateIs(t, x, s)
		}
	}
}

// P12.2: while others read, one that reads no more hands it to nobody, and the others stay in order.
func TestReaderGoes(t *testing.T) {
	for _, s := range states() {
		for n := range s.readers {
			if len(s.readers) == 1 {
				continue
			}
			x, then := s.made(t), s
			then.readers = slices.Delete(slices.Clone(s.readers), n, n+1)
			callIs(t, x, rUnlock, s.readers[n], api.OK)
			stateIs(t, x, then)
			callIs(t, x, rUnlock, s.readers[n], api.ErrMisuse)
			stateIs(t, x, then)
		}
	}
}

// P12.2: the last one that reads hands it to the first one that waits to write, and to no other, whichever of the readers it is.
func TestLastReaderGoes(t *testing.T) {
	x := state{readers: []int{5, 2}, toWrite: []int{3, 1}, toRead: []int{8, 4}}.made(t)
	callIs(t, x, rUnlock, 5, api.OK)
	callIs(t, x, rUnlock, 2, api.OK, 3)
	stateIs(t, x, state{writer: 3, toWrite: []int{1}, toRead: []int{8, 4}})
	x = state{readers: []int{5}}.made(t)
	callIs(t, x, rUnlock, 5, api.OK)
	stateIs(t, x, state{})
	callIs(t, x, try, 5, api.OK)
	stateIs(t, x, state{writer: 5})
}

// P12.2: who wrote hands it to the first one that waits to write, though others waited to read before; to those, all at once, if there is no such one; to nobody, if nobody waits.
func TestWriterGoes(t *testing.T) {
	x := rw.New()
	callIs(t, x, lock, 7, api.OK)
	callIs(t, x, rLock, 8, api.ErrWait)
	callIs(t, x, lock, 3, api.ErrWait)
	callIs(t, x, rLock, 4, api.ErrWait)
	callIs(t, x, lock, 1, api.ErrWait)
	callIs(t, x, unlock, 7, api.OK, 3)
	stateIs(t, x, state{writer: 3, toWrite: []int{1}, toRead: []int{8, 4}})
	callIs(t, x, unlock, 7, api.ErrMisuse)
	callIs(t, x, unlock, 3, api.OK, 1)
	stateIs(t, x, state{writer: 1, toRead: []int{8, 4}})
	callIs(t, x, unlock, 1, api.OK, 8, 4)
	stateIs(t, x, state{readers: []int{8, 4}})
	callIs(t, x, rUnlock, 8, api.OK)
	callIs(t, x, rUnlock, 4, api.OK)
	stateIs(t, x, state{})
	callIs(t, x, lock, 7, api.OK)
	callIs(t, x, unlock, 7, api.OK)
	stateIs(t, x, state{})
}

// P12.2: who was handed it has it as if it had come to a free one.
func TestHandedOn(t *testing.T) {
	x := state{writer: 7, toWrite: []int{3}, toRead: []int{8, 4}}.made(t)
	callIs(t, x, unlock, 7, api.OK, 3)
	dropIs(t, x, 3, false)
	callIs(t, x, lock, 3, api.ErrMisuse)
	callIs(t, x, rUnlock, 3, api.ErrMisuse)
	callIs(t, x, try, 7, api.ErrBusy)
	callIs(t, x, tryR, 7, api.ErrBusy)
	callIs(t, x, unlock, 3, api.OK, 8, 4)
	dropIs(t, x, 8, false)
	callIs(t, x, rLock, 4, api.ErrMisuse)
	callIs(t, x, unlock, 8, api.ErrMisuse)
	callIs(t, x, try, 7, api.ErrBusy)
	callIs(t, x, tryR, 7, api.OK)
	stateIs(t, x, state{readers: []int{8, 4, 7}})
	callIs(t, x, rUnlock, 4, api.OK)
	callIs(t, x, rUnlock, 8, api.OK)
	callIs(t, x, lock, 4, api.ErrWait)
	callIs(t, x, rUnlock, 7, api.OK, 4)
	stateIs(t, x, state{writer: 4})
}

// P12.2: the last one that waits to write lets those through that wait to read, behind those that do already; each earlier one lets nobody through.
func TestDropOfWhoWaitsToWrite(t *testing.T) {
	for _, order := range [][]int{{3, 1, 6}, {6, 1, 3}, {1, 6, 3}, {1, 3, 6}} {
		s := state{readers: []int{5, 2, 9}, toWrite: []int{3, 1, 6}, toRead: []int{8, 4, 12}}
		x := s.made(t)
		for n, task := range order {
			s.toWrite = slices.DeleteFunc(s.toWrite, func(other int) bool { return other == task })
			var got []int
			if n == len(order)-1 {
				got = s.toRead
				s.readers, s.toRead = slices.Concat(s.readers, got), nil
			}
			dropIs(t, x, task, true, got...)
			stateIs(t, x, s)
			dropIs(t, x, task, false)
			stateIs(t, x, s)
		}
	}
}

// P12.2: as long as somebody writes, nobody gets it by a drop.
func TestDropWhileOneWrites(t *testing.T) {
	full := state{writer: 7, toWrite: []int{3, 1}, toRead: []int{8, 4}}
	for n := range 4 * 3 * 2 {
		x, rest := full.made(t), slices.Concat(full.toWrite, full.toRead)
		s := full
		for left := 4; left > 0; left-- {
			task := rest[n%left]
			rest = slices.Delete(rest, n%left, n%left+1)
			n /= left
			other := func(one int) bool { return one == task }
			s.toWrite = slices.DeleteFunc(slices.Clone(s.toWrite), other)
			s.toRead = slices.DeleteFunc(slices.Clone(s.toRead), other)
			dropIs(t, x, task, true)
			stateIs(t, x, s)
		}
		callIs(t, x, unlock, 7, api.OK)
		stateIs(t, x, state{})
	}
}

// P12.2: who waits to read, wherever in line, is taken out of it alone, and can come again as the last one.
func TestDropOfWhoWaitsToRead(t *testing.T) {
	for _, s := range states() {
		for n, task := range s.toRead {
			x, then := s.made(t), s
			then.toRead = slices.Delete(slices.Clone(s.toRead), n, n+1)
			dropIs(t, x, task, true)
			stateIs(t, x, then)
			dropIs(t, x, task, false)
			callIs(t, x, tryR, task, api.ErrBusy)
			callIs(t, x, rLock, task, api.ErrWait)
			then.toRead = append(then.toRead, task)
			stateIs(t, x, then)
		}
	}
}

// P12.1: any number from 1 on is a task, and none is taken for another one.
func TestTasksApart(t *testing.T) {
	for _, one := range apart {
		for _, other := range apart {
			if other == one {
				continue
			}
			x := state{readers: []int{one}}.made(t)
			callIs(t, x, rUnlock, other, api.ErrMisuse)
			callIs(t, x, unlock, one, api.ErrMisuse)
			callIs(t, x, lock, other, api.ErrWait)
			dropIs(t, x, one, false)
			callIs(t, x, rUnlock, one, api.OK, other)
			callIs(t, x, unlock, one, api.ErrMisuse)
			callIs(t, x, rLock, one, api.ErrWait)
			dropIs(t, x, other, false)
			callIs(t, x, unlock, other, api.OK, one)
			callIs(t, x, rLock, other, api.OK)
			stateIs(t, x, state{readers: []int{one, other}})
		}
	}
	state{readers: apart[:6], toWrite: apart[6:12], toRead: apart[12:]}.made(t)
}

// P12.1, P12.2: no number of those that read, or wait, is named that would be the most.
func TestMany(t *testing.T) {
	var s state
	for n := range 400 {
		task := 1 + n*7%400
		s.readers = append(s.readers, task)
		s.toWrite = append(s.toWrite, task+400)
		s.toRead = append(s.toRead, task+800)
	}
	x := s.made(t)
	for n, task := range s.readers {
		var got []int
		if n == len(s.readers)-1 {
			got = s.toWrite[:1]
		}
		callIs(t, x, rUnlock, task, api.OK, got...)
	}
	for n, task := range s.toWrite {
		stateIs(t, x, state{writer: task, toWrite: s.toWrite[n+1:], toRead: s.toRead})
		got := s.toRead
		if n < len(s.toWrite)-1 {
			got = s.toWrite[n+1 : n+2]
		}
		callIs(t, x, unlock, task, api.OK, got...)
	}
	stateIs(t, x, state{readers: s.toRead})
}

// What a task that is here does.
const (
	reads = iota
	writes
	waitsToWrite
	waitsToRead
)

type here struct{ task, does int }

// One list beside a RW: all that are here, as they came to what they do.
type model []here

func (m model) who(does int) []int {
	var some []int
	for _, h := range m {
		if h.does == does {
			some = append(some, h.task)
		}
	}
	return some
}

func (m model) state() state {
	s := state{0, m.who(reads), m.who(waitsToWrite), m.who(waitsToRead)}
	for _, task := range m.who(writes) {
		s.writer = task
	}
	return s
}

func (m model) is(h here) bool { return slices.Contains(m, h) }

func (m model) without(task int) model {
	return slices.DeleteFunc(slices.Clone(m), func(h here) bool { return h.task == task })
}

// It does something else from now on, as the last one that does.
func (m *model) turn(task, does int) {
	*m = append(m.without(task), here{task, does})
}

func (m *model) handOn() []int {
	var got []int
	free := !slices.ContainsFunc(*m, func(h here) bool { return h.does < waitsToWrite })
	wants := m.who(waitsToWrite)
	switch {
	case len(m.who(writes)) > 0:
	case free && len(wants) > 0:
		got = wants[:1]
		m.turn(got[0], writes)
	case len(wants) == 0:
		got = m.who(waitsToRead)
		for _, task := range got {
			m.turn(task, reads)
		}
	}
	return got
}

// Reads, or writes, where none of those that hinder it is here.
func (m *model) come(task, does int, hinder ...int) bool {
	for _, h := range *m {
		if slices.Contains(hinder, h.does) {
			return false
		}
	}
	m.turn(task, does)
	return true
}

func (m *model) comes(call, task int) answer {
	if slices.ContainsFunc(*m, func(h here) bool { return h.task == task }) {
		return answer{e: api.ErrMisuse}
	}
	var ok bool
	if call == rLock || call == tryR {
		ok = m.come(task, reads, writes, waitsToWrite)
	} else {
		ok = m.come(task, writes, writes, reads)
	}
	switch {
	case ok:
		return answer{}
	case call == rLock:
		m.turn(task, waitsToRead)
		return answer{e: api.ErrWait}
	case call == lock:
		m.turn(task, waitsToWrite)
		return answer{e: api.ErrWait}
	}
	return answer{e: api.ErrBusy}
}

func (m *model) goes(call, task int) answer {
	if call == rUnlock && !m.is(here{task, reads}) || call == unlock && !m.is(here{task, writes}) {
		return answer{e: api.ErrMisuse}
	}
	*m = m.without(task)
	return answer{got: m.handOn()}
}

func (m *model) do(call, task int) answer {
	switch {
	case call == drop:
		if !m.is(here{task, waitsToWrite}) && !m.is(here{task, waitsToRead}) {
			return answer{}
		}
		*m = m.without(task)
		return answer{got: m.handOn(), ok: true}
	case task < 1:
		return answer{e: api.ErrArg}
	case call < rUnlock:
		return m.comes(call, task)
	}
	return m.goes(call, task)
}

type step struct{ call, task int }

// P12.1, P12.2, P12.3: every call, by those that are here and others, in all states that five tasks come to.
func TestAllStates(t *testing.T) {
	const tasks = 5
	paths, known := [][]step{nil}, map[string]bool{state{}.text(): true}
	for n := 0; n < len(paths); n++ {
		path := paths[n]
		for call := range calls {
			for task := range tasks + 2 {
				x, m := rw.New(), model(nil)
				for _, s := range path {
					do(x, s.call, s.task)
					m.do(s.call, s.task)
				}
				doIs(t, x, call, task, m.do(call, task))
				stateIs(t, x, m.state())
				if text := m.state().text(); task <= tasks && !known[text] {
					known[text] = true
					paths = append(paths, append(slices.Clone(path), step{call, task}))
				}
			}
		}
	}
	// None here: 1. Of k in an order (5, 20, 60, 120, 120 for k from 1 to 5): one writes, and the others are two lists: k ways; or some read: 1 way if nobody waits, else k(k-1)/2.
	if len(paths) != 1+(5+40+180+480+600)+(5+40+240+840+1320) {
		t.Fatalf("%d states", len(paths))
	}
}

// Some task that the call is meant for, as chance seldom hits one.
func (m model) some(source *rand.Rand, call int) int {
	does := [][]int{rUnlock: {reads}, unlock: {writes}, drop: {waitsToWrite, waitsToRead}}[call]
	var some []int
	for _, one := range does {
		some = append(some, m.who(one)...)
	}
	if len(some) == 0 {
		return 0
	}
	return some[source.Intn(len(some))]
}

func (m model) next(source *rand.Rand, tasks, often int) step {
	s := step{source.Intn(calls), source.Intn(tasks + 1)}
	if source.Intn(3) == 0 {
		s.call = often
	}
	if s.call >= rUnlock && source.Intn(3) > 0 {
		s.task = m.some(source, s.call)
	}
	return s
}

// P12.1, P12.2, P12.3: long lives, of few tasks and of many, by calls of which each is the most frequent in turn.
func TestManyLongLives(t *testing.T) {
	source := rand.New(rand.NewSource(12))
	for round := range 280 {
		x, m := rw.New(), model(nil)
		for range 300 {
			s := m.next(source, 1+round%14, round%calls)
			doIs(t, x, s.call, s.task, m.do(s.call, s.task))
			stateIs(t, x, m.state())
		}
	}
}

// P12.1, P12.2, P12.3 with R1: a nil RW is none: nobody reads, writes or waits.
func TestNoRW(t *testing.T) {
	var x *rw.RW
	for range 2 {
		for _, task := range slices.Concat(never, apart) {
			for call := range drop {
				callIs(t, x, call, task, api.ErrArg)
			}
			dropIs(t, x, task, false)
			stateIs(t, x, state{})
		}
	}
}

// A list that was answered, spare room included, and what it was then.
type held struct{ list, was []int }

func holds(list []int) held {
	whole := list[:cap(list)]
	return held{whole, slices.Clone(whole)}
}

func spoil(whole []int) {
	for n := range whole {
		whole[n] = -7
	}
}

// R4: whoever is handed a list may write to it, and into its spare room: no other list and no RW changes by that, and no list changes later on.
func TestListsAreNewMemory(t *testing.T) {
	source := rand.New(rand.NewSource(4))
	for round := range 70 {
		x, m := rw.New(), model(nil)
		var spoilt, kept []held
		for range 200 {
			s := m.next(source, 3+round%14, round%calls)
			a := do(x, s.call, s.task)
			if want := m.do(s.call, s.task); !same(a, want) {
				t.Fatalf("%s(%d) is %v, not %v", callNames[s.call], s.task, a, want)
			}
			spoilt, kept = share(x, a.got, spoilt, kept, source)
			stateIs(t, x, m.state())
			for _, h := range kept {
				if !slices.Equal(h.list, h.was) {
					t.Fatalf("a list became %v, not %v", h.list, h.was)
				}
			}
		}
	}
}

// Each list that is answered now goes to those that spoil theirs again and again, or to those that keep it as it is.
func share(x *rw.RW, got []int, spoilt, kept []held, source *rand.Rand) ([]held, []held) {
	toWrite, toRead := x.Waits()
	for _, list := range [][]int{got, x.Readers(), toWrite, toRead} {
		if source.Intn(2) == 0 {
			kept = append(kept, holds(list))
		} else {
			spoilt = append(spoilt, holds(list))
		}
	}
	for _, h := range spoilt {
		spoil(h.list)
	}
	return spoilt[max(0, len(spoilt)-60):], kept[max(0, len(kept)-60):]
}

// R5: they keep nothing of each other, and asking changes nothing.
func TestApart(t *testing.T) {
	a, b := rw.New(), rw.New()
	callIs(t, a, rLock, 1, api.OK)
	stateIs(t, b, state{})
	callIs(t, b, lock, 2, api.OK)
	callIs(t, b, rLock, 1, api.ErrWait)
	callIs(t, a, lock, 2, api.ErrWait)
	for range 3 {
		stateIs(t, a, state{readers: []int{1}, toWrite: []int{2}})
		stateIs(t, b, state{writer: 2, toRead: []int{1}})
	}
	dropIs(t, a, 2, true)
	stateIs(t, b, state{writer: 2, toRead: []int{1}})
	callIs(t, b, unlock, 2, api.OK, 1)
	stateIs(t, a, state{readers: []int{1}})
	stateIs(t, rw.New(), state{})
}

// R5: nor do several that live at once, wherever their lists grow.
func TestLivesApart(t *testing.T) {
	source := rand.New(rand.NewSource(5))
	for round := range 60 {
		var xs [3]*rw.RW
		var models [3]model
		for n := range xs {
			xs[n] = rw.New()
		}
		for range 200 {
			n := source.Intn(len(xs))
			s := models[n].next(source, 3+round%14, round%calls)
			doIs(t, xs[n], s.call, s.task, models[n].do(s.call, s.task))
			for n, x := range xs {
				stateIs(t, x, models[n].state())
			}
		}
	}
}
