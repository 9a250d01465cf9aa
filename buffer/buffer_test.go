package buffer_test

import (
	"math"
	"math/rand"
	"slices"
	"testing"

	"parclose/api"
	"parclose/buffer"
)

// Numbers at their ends, and some that no task of a domain ever is: a buffer asks of none of them whether it is a task.
var numbers = []int{math.MinInt, math.MinInt + 1, -1 << 32, -17, -8, -1, 0, 1, 8, 9, 16, 17, 4088, 4089, 1 << 32, 1<<32 + 1, 1 << 62, math.MaxInt - 1, math.MaxInt}

func wake(task int, e api.Errno) api.Wake {
	return api.Wake{Task: task, E: e}
}

func putIs(t *testing.T, b *buffer.Buffer, w api.Wake, want bool) {
	t.Helper()
	if ok := b.Put(w); ok != want {
		t.Fatalf("Put(%v) is %v", w, ok)
	}
}

func lenIs(t *testing.T, b *buffer.Buffer, want int) {
	t.Helper()
	if n := b.Len(); n != want {
		t.Fatalf("Len is %d, not %d", n, want)
	}
}

// Just these are there, of as many as there may be; after that there are none.
func toldIs(t *testing.T, b *buffer.Buffer, most int, want ...api.Wake) {
	t.Helper()
	lenIs(t, b, len(want))
	list := make([]api.Wake, most)
	copy(list, want)
	if told := b.Deliver(); !slices.Equal(told, list) {
		t.Fatalf("Deliver is %v, not %v", told, list)
	}
	lenIs(t, b, 0)
}

// Wake-ups that differ in all they have, in no order of tasks or of errors.
func some(count int) []api.Wake {
	all := []api.Wake{wake(5, api.ErrGone), wake(2, api.OK), wake(8, api.ErrTime), wake(18, api.ErrMisuse), wake(1, api.OK), wake(4088, api.ErrTime), wake(3, api.ErrOver), wake(6, api.ErrGone)}
	return all[:count]
}

// With so many of some.
func with(t *testing.T, most, count int) *buffer.Buffer {
	t.Helper()
	b := buffer.New(most)
	for _, w := range some(count) {
		putIs(t, b, w, true)
	}
	return b
}

// P10.1: the chapter's examples.
func TestExamples(t *testing.T) {
	b := buffer.New(3)
	putIs(t, b, wake(5, api.OK), true)
	putIs(t, b, wake(2, api.ErrTime), true)
	putIs(t, b, wake(5, api.ErrGone), false)
	toldIs(t, b, 3, wake(5, api.OK), wake(2, api.ErrTime))
	toldIs(t, b, 3)
}

// P10.1: New's number at its ends: nothing is there, and there is room for just so many.
func TestNew(t *testing.T) {
	for _, c := range [][2]int{
		{0, 0}, {1, 1}, {2, 2}, {5, 5}, {7, 7}, {8, 8},
		{9, 8}, {16, 8}, {1 << 32, 8}, {math.MaxInt, 8}, {-1, 0}, {-8, 0}, {-1 << 32, 0}, {math.MinInt, 0},
	} {
		b := buffer.New(c[0])
		if b == nil {
			t.Fatalf("New(%d) is nil", c[0])
		}
		for range 2 {
			toldIs(t, b, c[1])
			for n, w := range some(c[1]) {
				lenIs(t, b, n)
				putIs(t, b, w, true)
			}
			for _, task := range numbers {
				putIs(t, b, wake(task, api.ErrTime), false)
			}
			toldIs(t, b, c[1], some(c[1])...)
		}
	}
}

// P10.1: however many there are, they are told in the order in which they came, and empty ones fill up the rest.
func TestDeliverIsAlwaysAsMany(t *testing.T) {
	for most := range 9 {
		for count := range most + 1 {
			b := with(t, most, count)
			toldIs(t, b, most, some(count)...)
			for range 2 {
				toldIs(t, b, most)
			}
		}
	}
}

// P10.1: neither tasks nor errors change the order: all orders in which four come.
func TestOrderOfComing(t *testing.T) {
	for n := range 4 * 3 * 2 {
		rest, order := slices.Clone(some(4)), []api.Wake(nil)
		for left := 4; left > 0; left-- {
			place := n % left
			n /= left
			order = append(order, rest[place])
			rest = slices.Delete(rest, place, place+1)
		}
		b := buffer.New(5)
		for _, w := range order {
			putIs(t, b, w, true)
		}
		toldIs(t, b, 5, order...)
	}
}

// P10.1: wherever a task's wake-up is, no other one of it comes in, whatever it would be told, and that one stays as it is.
func TestSameTask(t *testing.T) {
	for count := 1; count <= 6; count++ {
		b := with(t, 7, count)
		for _, w := range some(count) {
			for e := api.OK; e <= api.ErrChain; e++ {
				putIs(t, b, wake(w.Task, e), false)
			}
		}
		lenIs(t, b, count)
		putIs(t, b, wake(77, api.OK), true)
		toldIs(t, b, 7, append(slices.Clone(some(count)), wake(77, api.OK))...)
	}
}

// P10.1: many may be told the same; it is the task alone that may not come twice.
func TestSameError(t *testing.T) {
	b := buffer.New(4)
	for _, task := range []int{3, 1, 2} {
		putIs(t, b, wake(task, api.ErrTime), true)
	}
	toldIs(t, b, 4, wake(3, api.ErrTime), wake(1, api.ErrTime), wake(2, api.ErrTime))
}

// P10.1: when there are as many as may be, no other comes in, and those that there are stay.
func TestFull(t *testing.T) {
	for most := range 9 {
		b := with(t, most, most)
		for _, task := range slices.Concat(numbers, []int{2, 3, 4, 5, 6, 18, 77}) {
			putIs(t, b, wake(task, api.OK), false)
			lenIs(t, b, most)
		}
		toldIs(t, b, most, some(most)...)
		toldIs(t, b, most)
	}
}

// P10.1: what was told is not there any more: its tasks come in again, and fewer of them leave nothing behind.
func TestPutAfterDeliver(t *testing.T) {
	b := with(t, 4, 4)
	toldIs(t, b, 4, some(4)...)
	for count := 4; count >= 0; count-- {
		var again []api.Wake
		for _, w := range some(count) {
			again = append(again, wake(w.Task, w.E+1))
		}
		slices.Reverse(again)
		for n, w := range again {
			putIs(t, b, w, true)
			lenIs(t, b, n+1)
			putIs(t, b, w, false)
		}
		toldIs(t, b, 4, again...)
	}
}

// P10.1: a wake-up that is as an empty one counts as any other, and no empty one is in its way.
func TestTaskZero(t *testing.T) {
	for _, e := range []api.Errno{api.OK, api.ErrGone} {
		b := buffer.New(3)
		for range 2 {
			putIs(t, b, wake(4, api.ErrTime), true)
			putIs(t, b, wake(0, e), true)
			lenIs(t, b, 2)
			putIs(t, b, wake(0, api.OK), false)
			putIs(t, b, wake(0, api.ErrTime), false)
			putIs(t, b, wake(7, api.OK), true)
			putIs(t, b, wake(8, api.OK), false)
			toldIs(t, b, 3, wake(4, api.ErrTime), wake(0, e), wake(7, api.OK))
		}
		putIs(t, b, wake(0, e), true)
		toldIs(t, b, 3, wake(0, e))
	}
	b := buffer.New(1)
	putIs(t, b, api.Wake{}, true)
	putIs(t, b, wake(4, api.OK), false)
	toldIs(t, b, 1, api.Wake{})
}

// P10.1 with R1: any task and any error is told as it was put.
func TestAnyNumbers(t *testing.T) {
	b := buffer.New(2)
	for _, task := range numbers {
		for _, e := range numbers {
			w, other := wake(task, api.Errno(e)), wake(task^1, api.Errno(^e))
			putIs(t, b, w, true)
			putIs(t, b, wake(task, other.E), false)
			putIs(t, b, other, true)
			toldIs(t, b, 2, w, other)
		}
	}
}

// P10.1: no task's wake-up is in another one's way, be they handles of one place, or alike in all but their highest bits.
func TestTasksApart(t *testing.T) {
	b := buffer.New(2)
	for _, task := range numbers {
		for _, other := range numbers {
			putIs(t, b, wake(task, api.OK), true)
			putIs(t, b, wake(other, api.OK), other != task)
			if other == task {
				toldIs(t, b, 2, wake(task, api.OK))
				continue
			}
			toldIs(t, b, 2, wake(task, api.OK), wake(other, api.OK))
		}
	}
}

// A buffer beside a list of what was put since it was told last.
type pair struct {
	b    *buffer.Buffer
	most int
	list []api.Wake
}

func newPair(most int) *pair {
	return &pair{b: buffer.New(most), most: most}
}

func (p *pair) put(t *testing.T, w api.Wake) {
	ok := len(p.list) < p.most
	for _, other := range p.list {
		ok = ok && other.Task != w.Task
	}
	if ok {
		p.list = append(p.list, w)
	}
	putIs(t, p.b, w, ok)
	lenIs(t, p.b, len(p.list))
}

func (p *pair) told(t *testing.T) {
	toldIs(t, p.b, p.most, p.list...)
	p.list = nil
}

// P10.1: all lives of five steps, for up to four wake-ups, and what is told at the end.
func TestAllShortLives(t *testing.T) {
	var steps []func(*pair)
	steps = append(steps, func(p *pair) { p.told(t) })
	for _, task := range []int{0, 1, 2, -1} {
		for _, e := range []api.Errno{api.OK, api.ErrTime} {
			steps = append(steps, func(p *pair) { p.put(t, wake(task, e)) })
		}
	}
	for most := range 5 {
		allLives(t, most, nil, steps, 5)
	}
}

// All lives that begin like this one, with so many more steps.
func allLives(t *testing.T, most int, life, steps []func(*pair), more int) {
	if more > 0 {
		for _, step := range steps {
			allLives(t, most, append(slices.Clone(life), step), steps, more-1)
		}
		return
	}
	p := newPair(most)
	for _, step := range life {
		step(p)
	}
	p.told(t)
}

// P10.1: long lives, of tasks that come often and of others that come once.
func TestManyLongLives(t *testing.T) {
	source := rand.New(rand.NewSource(10))
	for round := range 200 {
		p := newPair(round % 9)
		for range 200 {
			task := source.Intn(12) - 1
			if round%3 == 0 {
				task = int(source.Uint64())
			}
			if source.Intn(12) == 0 {
				p.told(t)
			}
			p.put(t, wake(task, api.Errno(source.Intn(20))))
		}
		p.told(t)
	}
}

// P10.1 with R1: a nil buffer has no room, and tells nothing; nor does a value that nobody made.
func TestNoBuffer(t *testing.T) {
	for _, b := range []*buffer.Buffer{nil, {}} {
		for range 2 {
			for _, n := range numbers {
				putIs(t, b, wake(n, api.OK), false)
				putIs(t, b, wake(1, api.Errno(n)), false)
			}
			toldIs(t, b, 0)
		}
	}
}

// Whoever is handed a list writes to it, and into its spare room.
func spoil(list []api.Wake) {
	whole := list[:cap(list)]
	for n := range whole {
		whole[n] = wake(-7, api.ErrChain)
	}
}

// R4: what is done to a list that was answered changes no other list and no buffer, and what is put later changes no list.
func TestListsAreNewMemory(t *testing.T) {
	for count := range 5 {
		b := with(t, 4, count)
		one := b.Deliver()
		spoil(one)
		_ = append(one[:0], wake(-8, api.OK))
		toldIs(t, b, 4)
		for _, w := range some(3) {
			putIs(t, b, w, true)
		}
		spoil(one)
		other := b.Deliver()
		spoil(one)
		for _, task := range []int{31, 32, 33, 34} {
			putIs(t, b, wake(task, api.ErrOver), true)
		}
		b.Deliver()
		if !slices.Equal(other, append(slices.Clone(some(3)), api.Wake{})) {
			t.Fatalf("the other list became %v", other)
		}
		toldIs(t, b, 4)
	}
}

// R5: buffers keep nothing of each other, and asking changes nothing.
func TestBuffersAreApart(t *testing.T) {
	a, b := buffer.New(2), buffer.New(3)
	putIs(t, a, wake(1, api.OK), true)
	lenIs(t, b, 0)
	putIs(t, b, wake(1, api.ErrTime), true)
	putIs(t, b, wake(2, api.OK), true)
	for range 3 {
		lenIs(t, a, 1)
		lenIs(t, b, 2)
	}
	toldIs(t, a, 2, wake(1, api.OK))
	lenIs(t, b, 2)
	toldIs(t, b, 3, wake(1, api.ErrTime), wake(2, api.OK))
	toldIs(t, buffer.New(2), 2)
}
