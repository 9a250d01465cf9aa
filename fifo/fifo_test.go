package fifo_test

import (
	"math"
	"math/rand"
	"slices"
	"testing"

	"parclose/fifo"
)

// Numbers that no queue and no item ever has.
var never = []int{math.MinInt, math.MinInt + 1, math.MinInt + 32, -1 << 32, -64, -33, -32, -2, -1, 32, 33, 63, 64, 65, 1 << 32, 1<<32 + 1, 1 << 62, math.MaxInt - 32, math.MaxInt - 1, math.MaxInt}

func pushIs(t *testing.T, q *fifo.Queues, queue, item int, want bool) {
	t.Helper()
	if ok := q.Push(queue, item); ok != want {
		t.Fatalf("Push(%d, %d) is %v", queue, item, ok)
	}
}

// An item below 0 that is wanted: there is none.
func popIs(t *testing.T, q *fifo.Queues, queue, want int) {
	t.Helper()
	if item, ok := q.Pop(queue); item != max(want, 0) || ok != (want >= 0) {
		t.Fatalf("Pop(%d) is %d, %v, not %d", queue, item, ok, want)
	}
}

func removeIs(t *testing.T, q *fifo.Queues, item int, want bool) {
	t.Helper()
	if ok := q.Remove(item); ok != want {
		t.Fatalf("Remove(%d) is %v", item, ok)
	}
}

func queueIs(t *testing.T, q *fifo.Queues, queue int, want ...int) {
	t.Helper()
	if all := q.All(queue); !slices.Equal(all, want) {
		t.Fatalf("All(%d) is %v, not %v", queue, all, want)
	}
	if n := q.Len(queue); n != len(want) {
		t.Fatalf("Len(%d) is %d, not %d", queue, n, len(want))
	}
}

// All that may be asked: just these queues, with just these items in them.
func queuesAre(t *testing.T, q *fifo.Queues, want ...[]int) {
	t.Helper()
	for queue, items := range want {
		queueIs(t, q, queue, items...)
	}
	for queue := len(want); queue < 40; queue++ {
		queueIs(t, q, queue)
	}
	for item := -3; item < 70; item++ {
		whereIs(t, q, item, holder(want, item))
	}
	for _, n := range never {
		queueIs(t, q, n)
		whereIs(t, q, n, -1)
	}
}

func whereIs(t *testing.T, q *fifo.Queues, item, want int) {
	t.Helper()
	if queue := q.Where(item); queue != want {
		t.Fatalf("Where(%d) is %d, not %d", item, queue, want)
	}
}

// The first list that has an item; below 0: none has.
func holder(lists [][]int, item int) int {
	return slices.IndexFunc(lists, func(list []int) bool { return slices.Contains(list, item) })
}

// P7.1: the chapter's examples.
func TestExamples(t *testing.T) {
	q := fifo.New(2, 4)
	pushIs(t, q, 0, 3, true)
	pushIs(t, q, 0, 1, true)
	pushIs(t, q, 1, 3, false)
	removeIs(t, q, 3, true)
	popIs(t, q, 0, 1)
	queuesAre(t, q, nil, nil)
}

// P7.1: New's numbers, each at its ends beside the other one.
func TestNew(t *testing.T) {
	numbers := [][2]int{
		{0, 0}, {1, 1}, {2, 2}, {17, 17}, {31, 31}, {32, 32},
		{33, 32}, {64, 32}, {1 << 32, 32}, {math.MaxInt, 32}, {-1, 0}, {-32, 0}, {-1 << 32, 0}, {math.MinInt, 0},
	}
	for _, a := range numbers {
		for _, b := range numbers {
			q := fifo.New(a[0], b[0])
			if q == nil {
				t.Fatalf("New(%d, %d) is nil", a[0], b[0])
			}
			queuesAre(t, q)
			hasJust(t, q, a[1], b[1])
		}
	}
}

// Of all numbers of queues and items just the first ones may be pushed.
func hasJust(t *testing.T, q *fifo.Queues, queues, items int) {
	t.Helper()
	numbers := slices.Concat(never, []int{0, 1, 2, 16, 17, 30, 31})
	for _, queue := range numbers {
		for _, item := range numbers {
			want := 0 <= queue && queue < queues && 0 <= item && item < items
			pushIs(t, q, queue, item, want)
			removeIs(t, q, item, want)
			queueIs(t, q, queue)
		}
	}
}

// P7.1: who came first goes first, of each queue by itself.
func TestFirstInFirstOut(t *testing.T) {
	q := fifo.New(3, 6)
	for _, c := range [][2]int{{0, 5}, {2, 0}, {0, 2}, {2, 4}, {0, 3}} {
		pushIs(t, q, c[0], c[1], true)
	}
	queuesAre(t, q, []int{5, 2, 3}, nil, []int{0, 4})
	popIs(t, q, 1, -1)
	popIs(t, q, 0, 5)
	queuesAre(t, q, []int{2, 3}, nil, []int{0, 4})
	pushIs(t, q, 0, 5, true)
	popIs(t, q, 2, 0)
	queuesAre(t, q, []int{2, 3, 5}, nil, []int{4})
	for _, want := range []int{2, 3, 5, -1, -1} {
		popIs(t, q, 0, want)
	}
	popIs(t, q, 2, 4)
	queuesAre(t, q, nil, nil, nil)
	pushIs(t, q, 0, 0, true)
	queuesAre(t, q, []int{0}, nil, nil)
}

// P7.1: an item that is in a queue already, be it that one, is pushed nowhere, and nothing changes.
func TestPushTwice(t *testing.T) {
	q := fifo.New(2, 3)
	for _, item := range []int{2, 0, 1} {
		pushIs(t, q, 1, item, true)
	}
	for _, item := range []int{0, 1, 2} {
		pushIs(t, q, 0, item, false)
		pushIs(t, q, 1, item, false)
	}
	queuesAre(t, q, nil, []int{2, 0, 1})
}

// P7.1: queues and items that there are not are refused, and nothing changes.
func TestNoSuchQueueOrItem(t *testing.T) {
	q := fifo.New(2, 3)
	pushIs(t, q, 0, 1, true)
	pushIs(t, q, 1, 2, true)
	for _, n := range slices.Concat(never, []int{3, 4, 5, 31}) {
		pushIs(t, q, n, 0, false)
		pushIs(t, q, n, 1, false)
		pushIs(t, q, 0, n, false)
		pushIs(t, q, n, n, false)
		popIs(t, q, n, -1)
		removeIs(t, q, n, false)
	}
	popIs(t, q, 2, -1)
	pushIs(t, q, 2, 0, false)
	removeIs(t, q, 0, false)
	queuesAre(t, q, []int{1}, []int{2})
}

// P7.1: an item is taken out of the front, the middle and the back of a queue, and of one that has no other.
func TestRemove(t *testing.T) {
	for _, c := range []struct {
		item  int
		stays []int
	}{
		{0, []int{3, 1, 4}}, {3, []int{0, 1, 4}}, {1, []int{0, 3, 4}}, {4, []int{0, 3, 1}},
	} {
		q := fifo.New(2, 5)
		for _, item := range []int{0, 3, 1, 4} {
			pushIs(t, q, 1, item, true)
		}
		pushIs(t, q, 0, 2, true)
		removeIs(t, q, c.item, true)
		removeIs(t, q, c.item, false)
		queuesAre(t, q, []int{2}, c.stays)
		// It may go anywhere again, as the last one.
		pushIs(t, q, 0, c.item, true)
		queuesAre(t, q, []int{2, c.item}, c.stays)
		removeIs(t, q, c.item, true)
		pushIs(t, q, 1, c.item, true)
		queuesAre(t, q, []int{2}, append(slices.Clone(c.stays), c.item))
		removeIs(t, q, 2, true)
		queuesAre(t, q, nil, append(slices.Clone(c.stays), c.item))
	}
}

// P7.1: what was popped is in no queue.
func TestPopped(t *testing.T) {
	q := fifo.New(2, 2)
	pushIs(t, q, 1, 1, true)
	popIs(t, q, 1, 1)
	whereIs(t, q, 1, -1)
	removeIs(t, q, 1, false)
	pushIs(t, q, 0, 1, true)
	whereIs(t, q, 1, 0)
}

// P7.1: as many queues and items as there may be, all items in one queue, and each in one of its own.
func TestTheMost(t *testing.T) {
	q := fifo.New(32, 32)
	all := make([]int, 32)
	for n := range all {
		all[n] = 31 - n
		pushIs(t, q, 31, all[n], true)
	}
	lists := make([][]int, 32)
	lists[31] = all
	queuesAre(t, q, lists...)
	for n := range all {
		popIs(t, q, 31, 31-n)
		if n > 0 {
			pushIs(t, q, n-1, 31-n, true)
			lists[n-1] = []int{31 - n}
		}
	}
	pushIs(t, q, 31, 31, true)
	lists[31] = []int{31}
	queuesAre(t, q, lists...)
}

// P7.1: the item 0 and none are told apart.
func TestPopOfItemZero(t *testing.T) {
	q := fifo.New(1, 1)
	popIs(t, q, 0, -1)
	pushIs(t, q, 0, 0, true)
	popIs(t, q, 0, 0)
	popIs(t, q, 0, -1)
}

// Queues beside lists that go by the chapter's words.
type pair struct {
	q     *fifo.Queues
	items int
	lists [][]int
}

func newPair(queues, items int) *pair {
	return &pair{fifo.New(queues, items), items, make([][]int, queues)}
}

func (p *pair) push(t *testing.T, queue, item int) {
	ok := 0 <= queue && queue < len(p.lists) && 0 <= item && item < p.items && holder(p.lists, item) < 0
	if ok {
		p.lists[queue] = append(p.lists[queue], item)
	}
	pushIs(t, p.q, queue, item, ok)
}

func (p *pair) pop(t *testing.T, queue int) {
	first := -1
	if 0 <= queue && queue < len(p.lists) && len(p.lists[queue]) > 0 {
		first = p.lists[queue][0]
		p.lists[queue] = p.lists[queue][1:]
	}
	popIs(t, p.q, queue, first)
}

func (p *pair) remove(t *testing.T, item int) {
	in := holder(p.lists, item)
	if in >= 0 {
		p.lists[in] = slices.DeleteFunc(slices.Clone(p.lists[in]), func(n int) bool { return n == item })
	}
	removeIs(t, p.q, item, in >= 0)
}

func (p *pair) step(t *testing.T, what, queue, item int) {
	switch what {
	case 0:
		p.push(t, queue, item)
	case 1:
		p.pop(t, queue)
	default:
		p.remove(t, item)
	}
}

// Of the queues and items that there are, and of those next to them.
func (p *pair) same(t *testing.T) {
	for queue := -1; queue <= len(p.lists); queue++ {
		if queue < 0 || queue == len(p.lists) {
			queueIs(t, p.q, queue)
			continue
		}
		queueIs(t, p.q, queue, p.lists[queue]...)
	}
	for item := -1; item <= p.items; item++ {
		whereIs(t, p.q, item, holder(p.lists, item))
	}
}

// P7.1: all lives of four steps, of up to two queues and three items, with a queue and an item that there are not; as a step that is refused changes nothing, shorter lives are among them.
func TestAllShortLives(t *testing.T) {
	for queues := range 3 {
		for items := range 4 {
			var steps [][3]int
			for queue := range queues + 1 {
				steps = append(steps, [3]int{1, queue, 0})
				for item := range items + 1 {
					steps = append(steps, [3]int{0, queue, item})
				}
			}
			for item := range items + 1 {
				steps = append(steps, [3]int{2, 0, item})
			}
			allLives(t, queues, items, steps, 4)
		}
	}
}

// All lives of so many steps.
func allLives(t *testing.T, queues, items int, steps [][3]int, length int) {
	life := make([]int, length)
	for {
		p := newPair(queues, items)
		for _, n := range life {
			p.step(t, steps[n][0], steps[n][1], steps[n][2])
		}
		p.same(t)
		at := 0
		for at < length && life[at] == len(steps)-1 {
			life[at] = 0
			at++
		}
		if at == length {
			return
		}
		life[at]++
	}
}

// P7.1: long lives, with items that wait, that do not, and that there are not.
func TestManyLongLives(t *testing.T) {
	source := rand.New(rand.NewSource(7))
	for round := range 120 {
		queues, items := 1+round%7, 1+round%32
		if round%40 == 39 {
			queues = 32
		}
		p := newPair(queues, items)
		for range 200 {
			what := []int{0, 0, 0, 1, 2}[source.Intn(5)]
			p.step(t, what, source.Intn(queues+2)-1, source.Intn(items+2)-1)
			p.same(t)
		}
	}
}

// P7.1 with R1: nil queues are none, nor has any a value that nobody made.
func TestNoQueues(t *testing.T) {
	for _, q := range []*fifo.Queues{nil, {}} {
		for range 2 {
			for _, n := range slices.Concat(never, []int{0, 1, 31}) {
				pushIs(t, q, n, 0, false)
				pushIs(t, q, 0, n, false)
				popIs(t, q, n, -1)
				removeIs(t, q, n, false)
			}
			queuesAre(t, q)
		}
	}
}

// R4: whoever is handed a list may write to it, and into its spare room, and changes no other list and no queue.
func TestListsAreNewMemory(t *testing.T) {
	q := fifo.New(1, 6)
	for _, item := range []int{4, 0, 2} {
		pushIs(t, q, 0, item, true)
	}
	one, other := q.All(0), q.All(0)
	whole := one[:cap(one)]
	for i := range whole {
		whole[i] = -7
	}
	_ = append(one, 8, 9)
	queuesAre(t, q, []int{4, 0, 2})
	pushIs(t, q, 0, 5, true)
	popIs(t, q, 0, 4)
	removeIs(t, q, 0, true)
	if !slices.Equal(other, []int{4, 0, 2}) {
		t.Errorf("the other list became %v", other)
	}
	queuesAre(t, q, []int{2, 5})
}

// R5: queues keep nothing of each other, and asking changes nothing.
func TestQueuesAreApart(t *testing.T) {
	a, b := fifo.New(2, 2), fifo.New(2, 2)
	pushIs(t, a, 0, 1, true)
	queuesAre(t, b, nil, nil)
	popIs(t, b, 0, -1)
	removeIs(t, b, 1, false)
	pushIs(t, b, 1, 1, true)
	pushIs(t, b, 1, 0, true)
	for range 3 {
		queuesAre(t, a, []int{1}, nil)
		queuesAre(t, b, nil, []int{1, 0})
	}
	popIs(t, a, 0, 1)
	queuesAre(t, b, nil, []int{1, 0})
	queuesAre(t, fifo.New(2, 2), nil, nil)
}
