package cell_test

import (
	"math"
	"math/rand"
	"slices"
	"strconv"
	"testing"

	"parclose/api"
	"parclose/cell"
)

const (
	mostWords = 4
	mostSeq   = 1 << 20
)

// Numbers that no task ever is.
var never = []int{math.MinInt, math.MinInt + 1, -1 << 62, -1<<32 + 1, -1 << 32, -17, -2, -1, 0}

// Tasks at their ends, handles of one place, and numbers alike in all but their highest bits.
var apart = []int{1, 2, 8, 9, 16, 17, 18, 33, 257, 4088, 1<<32 - 1, 1 << 32, 1<<32 + 1, 1<<32 + 17, 1 << 62, 1<<62 + 1, math.MaxInt - 1, math.MaxInt}

// Words are any numbers.
var values = slices.Concat(never, apart)

// Places that no word ever stands at.
var nowhere = []int{math.MinInt, math.MinInt + 1, math.MinInt + 3, -1 << 62, -1<<32 + 1, -1 << 32, -256, -8, -5, -4, -3, -2, -1,
	4, 5, 6, 7, 8, 16, 255, 256, 257, 1 << 31, 1<<32 - 1, 1 << 32, 1<<32 + 1, 1<<32 + 3, 1 << 62, 1<<62 + 1, math.MaxInt - 3, math.MaxInt}

// The calls that change something, and behind them those that tell something.
const (
	begin = iota
	end
	put
	start
	word
	same
	calls
)

var callNames = [calls]string{"Begin", "End", "Put", "Start", "Word", "Same"}

// Who, at which place, and with what number.
type step struct{ call, t, i, v int }

type answer struct {
	n int
	e api.Errno
}

func do(c *cell.Cell, p step) answer {
	var a answer
	switch p.call {
	case begin:
		a.e = c.Begin(p.t)
	case end:
		a.e = c.End(p.t)
	case put:
		a.e = c.Put(p.t, p.i, p.v)
	case start:
		a.n, a.e = c.Start()
	case word:
		a.n, a.e = c.Word(p.i)
	case same:
		a.e = c.Same(p.v)
	}
	return a
}

func doIs(t *testing.T, c *cell.Cell, p step, want answer) {
	if a := do(c, p); a != want {
		t.Helper()
		t.Fatalf("%s (%d, %d, %d) is %v, not %v", callNames[p.call], p.t, p.i, p.v, a, want)
	}
}

func beginIs(t *testing.T, c *cell.Cell, task int, e api.Errno) {
	t.Helper()
	doIs(t, c, step{call: begin, t: task}, answer{e: e})
}

func endIs(t *testing.T, c *cell.Cell, task int, e api.Errno) {
	t.Helper()
	doIs(t, c, step{call: end, t: task}, answer{e: e})
}

func putIs(t *testing.T, c *cell.Cell, task, i, v int, e api.Errno) {
	t.Helper()
	doIs(t, c, step{put, task, i, v}, answer{e: e})
}

func startIs(t *testing.T, c *cell.Cell, seq int, e api.Errno) {
	t.Helper()
	doIs(t, c, step{call: start}, answer{seq, e})
}

func wordIs(t *testing.T, c *cell.Cell, i, v int, e api.Errno) {
	t.Helper()
	doIs(t, c, step{call: word, i: i}, answer{v, e})
}

func sameIs(t *testing.T, c *cell.Cell, seq int, e api.Errno) {
	t.Helper()
	doIs(t, c, step{call: same, v: seq}, answer{e: e})
}

// All that can be seen: with a writer Start does not tell what Seq is.
func cellIs(t *testing.T, c *cell.Cell, seq, writer int, words ...int) {
	t.Helper()
	if n := c.Size(); n != len(words) {
		t.Fatalf("Size is %d, not %d", n, len(words))
	}
	if n := c.Writer(); n != writer {
		t.Fatalf("Writer is %d, not %d", n, writer)
	}
	if writer == 0 {
		startIs(t, c, seq, api.OK)
		sameIs(t, c, seq, api.OK)
	} else {
		startIs(t, c, 0, api.ErrTorn)
		sameIs(t, c, seq, api.ErrTorn)
	}
	for i, v := range words {
		wordIs(t, c, i, v, api.OK)
	}
}

// Whoever writes ends, by which Seq is told; what may be done then is done once.
func goesBy(t *testing.T, c *cell.Cell, seq, writer int, words ...int) {
	t.Helper()
	cellIs(t, c, seq, writer, words...)
	if writer != 0 {
		endIs(t, c, writer, api.OK)
		seq++
		cellIs(t, c, seq, 0, words...)
	}
	if seq == mostSeq {
		beginIs(t, c, 6, api.ErrOver)
		cellIs(t, c, seq, 0, words...)
		return
	}
	beginIs(t, c, 6, api.OK)
	words = slices.Clone(words)
	for i := range words {
		words[i] = 11 * (i + 1)
		putIs(t, c, 6, i, words[i], api.OK)
		cellIs(t, c, seq+1, 6, words...)
	}
	endIs(t, c, 6, api.OK)
	cellIs(t, c, seq+2, 0, words...)
}

// What stands in the words of those that some of the tests begin with.
var firstWords = [mostWords]int{70, -80, math.MaxInt, math.MinInt}

// Of this size, and with this Seq (from 2 on), where task 5 wrote all words at first, and task 3 writes if Seq is odd.
func with(t *testing.T, size, seq int) *cell.Cell {
	t.Helper()
	c := cell.New(size)
	beginIs(t, c, 5, api.OK)
	for i, v := range firstWords[:size] {
		putIs(t, c, 5, i, v, api.OK)
	}
	endIs(t, c, 5, api.OK)
	writeOften(t, c, seq/2-1)
	if seq%2 != 0 {
		beginIs(t, c, 3, api.OK)
	}
	withIs(t, c, size, seq)
	return c
}

// So many times one writes nothing.
func writeOften(t *testing.T, c *cell.Cell, times int) {
	for range times {
		if c.Begin(3) != api.OK || c.End(3) != api.OK {
			t.Helper()
			t.Fatal("nobody writes, and it is not done")
		}
	}
}

func withIs(t *testing.T, c *cell.Cell, size, seq int) {
	t.Helper()
	cellIs(t, c, seq, seq%2*3, firstWords[:size]...)
}

func withGoesBy(t *testing.T, c *cell.Cell, size, seq int) {
	t.Helper()
	goesBy(t, c, seq, seq%2*3, firstWords[:size]...)
}

// Of each size, with nobody who writes and with one who does, early and late.
func some(t *testing.T, try func(c *cell.Cell, size, seq int)) {
	t.Helper()
	for size := 1; size <= mostWords; size++ {
		for _, seq := range []int{2, 3, 8, 9, 256, 257, mostSeq - 2, mostSeq - 1, mostSeq} {
			c := with(t, size, seq)
			try(c, size, seq)
			withGoesBy(t, c, size, seq)
		}
	}
}

// P17.1 and P17.2: the chapter's examples.
func TestExamples(t *testing.T) {
	c := cell.New(1)
	beginIs(t, c, 1, api.OK)
	putIs(t, c, 1, 0, 7, api.OK)
	startIs(t, c, 0, api.ErrTorn)
	wordIs(t, c, 0, 7, api.OK)
	endIs(t, c, 1, api.OK)
	startIs(t, c, 2, api.OK)
	sameIs(t, c, 2, api.OK)
	sameIs(t, c, 0, api.ErrTorn)
}

// P17.1: a new one has as many words as were asked for, but at least one and at most four, all 0; Seq is 0, and nobody writes.
func TestNew(t *testing.T) {
	for _, p := range [][2]int{
		{1, 1}, {2, 2}, {3, 3}, {4, 4},
		{0, 1}, {-1, 1}, {-2, 1}, {-4, 1}, {-1 << 32, 1}, {-1<<32 + 2, 1}, {-1 << 62, 1}, {math.MinInt, 1}, {math.MinInt + 3, 1},
		{5, 4}, {6, 4}, {8, 4}, {16, 4}, {256, 4}, {258, 4}, {1 << 32, 4}, {1<<32 + 2, 4}, {1 << 62, 4}, {math.MaxInt - 1, 4}, {math.MaxInt, 4},
	} {
		c, words := cell.New(p[0]), make([]int, p[1])
		if c == nil {
			t.Fatalf("New(%d) is nil", p[0])
		}
		cellIs(t, c, 0, 0, words...)
		for _, i := range append(nowhere, p[1]) {
			wordIs(t, c, i, 0, api.ErrArg)
		}
		for _, task := range apart {
			putIs(t, c, task, 0, 9, api.ErrMisuse)
			endIs(t, c, task, api.ErrMisuse)
		}
		goesBy(t, c, 0, 0, words...)
	}
}

// P17.1: numbers below 1 are no tasks, whatever else is wrong; nothing changes.
func TestNoTask(t *testing.T) {
	some(t, func(c *cell.Cell, size, seq int) {
		for _, task := range never {
			beginIs(t, c, task, api.ErrArg)
			endIs(t, c, task, api.ErrArg)
			for _, i := range []int{-1, 0, size - 1, size, math.MaxInt} {
				putIs(t, c, task, i, 9, api.ErrArg)
			}
			withIs(t, c, size, seq)
		}
	})
}

// P17.1 and P17.2: at the size, beyond it and below 0 there is no word to be put, whoever puts it, or to be told; nothing changes.
func TestNoWord(t *testing.T) {
	some(t, func(c *cell.Cell, size, seq int) {
		for _, i := range append(noWords(size), nowhere...) {
			wordIs(t, c, i, 0, api.ErrArg)
			for _, task := range []int{3, 4, 5, 0, -3} {
				putIs(t, c, task, i, 9, api.ErrArg)
			}
			withIs(t, c, size, seq)
		}
	})
}

// Those of the places of four words at which fewer have none.
func noWords(size int) []int {
	return []int{0, 1, 2, 3}[size:]
}

// P17.1: each task can begin, if nobody writes, and it is who writes then.
func TestBegin(t *testing.T) {
	for size := 1; size <= mostWords; size++ {
		for _, task := range apart {
			c := with(t, size, 4)
			beginIs(t, c, task, api.OK)
			goesBy(t, c, 5, task, firstWords[:size]...)
		}
	}
}

// P17.1: while one writes, it can not begin once more, and another one can not begin; nothing changes.
func TestBeginWhileOneWrites(t *testing.T) {
	some(t, func(c *cell.Cell, size, seq int) {
		if seq%2 == 0 {
			return
		}
		for range 2 {
			beginIs(t, c, 3, api.ErrMisuse)
			withIs(t, c, size, seq)
			for _, task := range apart {
				beginIs(t, c, task, api.ErrBusy)
				withIs(t, c, size, seq)
			}
		}
	})
}

// P17.1: with the last number nobody begins any more, and what was told stays; the one ahead of it is the last one to write, to its end.
func TestBeginOver(t *testing.T) {
	for size := 1; size <= mostWords; size++ {
		c := with(t, size, mostSeq-2)
		beginIs(t, c, 9, api.OK)
		beginIs(t, c, 9, api.ErrMisuse)
		beginIs(t, c, 8, api.ErrBusy)
		putIs(t, c, 9, size-1, 44, api.OK)
		endIs(t, c, 9, api.OK)
		words := append(slices.Clone(firstWords[:size-1]), 44)
		for _, task := range append(apart, 3, 5) {
			beginIs(t, c, task, api.ErrOver)
			putIs(t, c, task, 0, 9, api.ErrMisuse)
			endIs(t, c, task, api.ErrMisuse)
			cellIs(t, c, mostSeq, 0, words...)
		}
		beginIs(t, c, 0, api.ErrArg)
		cellIs(t, c, mostSeq, 0, words...)
	}
}

// P17.1 and P17.2: all numbers from 0 to the last one, one by one.
func TestSeqOneByOne(t *testing.T) {
	c := cell.New(2)
	for n := 0; n < mostSeq; n += 2 {
		startIs(t, c, n, api.OK)
		sameIs(t, c, n, api.OK)
		sameIs(t, c, n+1, api.ErrTorn)
		task := 1 + n%7
		beginIs(t, c, task, api.OK)
		startIs(t, c, 0, api.ErrTorn)
		sameIs(t, c, n, api.ErrTorn)
		sameIs(t, c, n+1, api.ErrTorn)
		putIs(t, c, task, n/2%2, n, api.OK)
		endIs(t, c, task, api.OK)
		sameIs(t, c, n, api.ErrTorn)
	}
	cellIs(t, c, mostSeq, 0, mostSeq-4, mostSeq-2)
	beginIs(t, c, 1, api.ErrOver)
}

// P17.1: who writes puts any number into any word, again and again, and at once; the other words and Seq stay.
func TestPut(t *testing.T) {
	for size := 1; size <= mostWords; size++ {
		for at := range size {
			c := with(t, size, 7)
			words := slices.Clone(firstWords[:size])
			for _, v := range append(values, 0, 9, 9, 0, 0) {
				putIs(t, c, 3, at, v, api.OK)
				words[at] = v
				cellIs(t, c, 7, 3, words...)
			}
			putIs(t, c, 3, at, -5, api.OK)
			words[at] = -5
			goesBy(t, c, 7, 3, words...)
		}
	}
}

// P17.1: who writes need not put anything, and what it did not put is as it was.
func TestPutSome(t *testing.T) {
	for set := range 1 << mostWords {
		c := with(t, mostWords, 3)
		words := slices.Clone(firstWords[:])
		for at := mostWords - 1; at >= 0; at-- {
			if set>>at&1 != 0 {
				putIs(t, c, 3, at, at+set, api.OK)
				words[at] = at + set
			}
		}
		goesBy(t, c, 3, 3, words...)
	}
}

// P17.1: whoever does not write, as it did not begin, or came to its end, puts nothing, and ends nothing.
func TestNotTheWriter(t *testing.T) {
	some(t, func(c *cell.Cell, size, seq int) {
		others := append(apart, 5)
		if seq%2 == 0 {
			others = append(others, 3)
		}
		for _, task := range others {
			for i := range size {
				putIs(t, c, task, i, 9, api.ErrMisuse)
				putIs(t, c, task, i, firstWords[i], api.ErrMisuse)
			}
			endIs(t, c, task, api.ErrMisuse)
			withIs(t, c, size, seq)
		}
	})
}

// P17.1: who ended can not put, or end once more; it can begin anew, and so can any other one.
func TestEnd(t *testing.T) {
	c := cell.New(2)
	for n, task := range append(apart, apart...) {
		for range 2 {
			beginIs(t, c, task, api.OK)
			putIs(t, c, task, 0, n, api.OK)
			endIs(t, c, task, api.OK)
			putIs(t, c, task, 0, -9, api.ErrMisuse)
			endIs(t, c, task, api.ErrMisuse)
		}
		cellIs(t, c, 4*n+4, 0, n, 0)
	}
}

// P17.1: any number from 1 on is a task, and none is taken for another one, nor is one below 1 that is like it in all but the sign.
func TestTasksApart(t *testing.T) {
	for _, one := range apart {
		c := with(t, 2, 4)
		beginIs(t, c, one, api.OK)
		for _, none := range []int{-one, ^one, one + math.MinInt} {
			beginIs(t, c, none, api.ErrArg)
			putIs(t, c, none, 1, 9, api.ErrArg)
			endIs(t, c, none, api.ErrArg)
		}
		for _, other := range apart {
			if other == one {
				continue
			}
			beginIs(t, c, other, api.ErrBusy)
			putIs(t, c, other, 1, 9, api.ErrMisuse)
			endIs(t, c, other, api.ErrMisuse)
		}
		beginIs(t, c, one, api.ErrMisuse)
		cellIs(t, c, 5, one, firstWords[:2]...)
		putIs(t, c, one, 1, 9, api.OK)
		goesBy(t, c, 5, one, firstWords[0], 9)
	}
}

// Numbers that are not the one that is asked for, though they are near it, or like it in some of their bits.
func otherSeqs(seq int) []int {
	all := []int{seq - 2, seq - 1, seq + 1, seq + 2, -seq - 1, ^seq, seq + math.MinInt, seq + 1<<20, seq + 1<<31, seq + 1<<32, seq - 1<<32, seq + 1<<62}
	for n := range 63 {
		all = append(all, seq^1<<n)
	}
	return slices.Concat(all, never[:len(never)-1], apart)
}

// P17.2: Same is so with Seq alone, while nobody writes, and with no number, while somebody does.
func TestSame(t *testing.T) {
	some(t, func(c *cell.Cell, size, seq int) {
		for _, n := range otherSeqs(seq) {
			if n != seq {
				sameIs(t, c, n, api.ErrTorn)
			}
		}
		if seq%2 != 0 {
			sameIs(t, c, seq, api.ErrTorn)
		}
		withIs(t, c, size, seq)
	})
	c := cell.New(1)
	for _, n := range otherSeqs(0) {
		sameIs(t, c, n, api.ErrTorn)
	}
	sameIs(t, c, 0, api.OK)
}

// P17.2: whoever writes, nobody can start to read, and each word is told, as it is now.
func TestReadWhileOneWrites(t *testing.T) {
	for _, task := range apart {
		c := with(t, 3, 6)
		beginIs(t, c, task, api.OK)
		for n, v := range values {
			putIs(t, c, task, n%3, v, api.OK)
			startIs(t, c, 0, api.ErrTorn)
			wordIs(t, c, n%3, v, api.OK)
			for _, seq := range []int{0, 5, 6, 7, 8} {
				sameIs(t, c, seq, api.ErrTorn)
			}
		}
		endIs(t, c, task, api.OK)
		startIs(t, c, 8, api.OK)
	}
}

// All orders of so many steps of one list and so many of another one, each list's in its own order.
func orders(one, other int, try func(first []bool)) {
	var more func(first []bool, one, other int)
	more = func(first []bool, one, other int) {
		if one+other == 0 {
			try(first)
		}
		if one > 0 {
			more(append(first, true), one-1, other)
		}
		if other > 0 {
			more(append(first, false), one, other-1)
		}
	}
	more(nil, one, other)
}

// P17.2: wherever between the steps of one that writes twice those of a read are: it fits, and has the words that were told last when it began, if nobody wrote from its first step to its last one; else it is torn.
func TestReadsBetweenWrites(t *testing.T) {
	writes := []step{{begin, 2, 0, 0}, {put, 2, 0, 71}, {put, 2, 1, 72}, {end, 2, 0, 0}, {begin, 4, 0, 0}, {put, 4, 1, 82}, {put, 4, 0, 81}, {end, 4, 0, 0}}
	told := map[int][2]int{0: {0, 0}, 2: {71, 72}, 4: {81, 82}}
	fit, all := 0, 0
	orders(len(writes), 4, func(first []bool) {
		c, written, reads := cell.New(2), 0, []int(nil)
		var seq int
		var e api.Errno
		var words [2]int
		for _, isWrite := range first {
			if isWrite {
				doIs(t, c, writes[written], answer{})
				written++
				continue
			}
			reads = append(reads, written)
			switch len(reads) {
			case 1:
				seq, e = c.Start()
			case 4:
				e = max(e, c.Same(seq))
			default:
				words[len(reads)-2], _ = c.Word(len(reads) - 2)
			}
		}
		all++
		if quiet := reads[0]%4 == 0 && reads[0] == reads[3]; quiet != (e == api.OK) {
			t.Fatalf("a read with %v writes ahead of its steps ends with %v", reads, e)
		} else if quiet {
			fit++
			if words != told[seq] {
				t.Fatalf("a read with %v writes ahead of its steps has %v", reads, words)
			}
		}
	})
	if all != 495 || fit != 3 {
		t.Fatalf("%d of %d reads fit", fit, all)
	}
}

// Beside a Cell: how often it was written before, and all that was done since then, one by one.
type model struct {
	size, before int
	done         []step
}

func (m *model) seq() int {
	n := 2 * m.before
	for _, p := range m.done {
		if p.call != put {
			n++
		}
	}
	return n
}

func (m *model) writer() int {
	for _, p := range slices.Backward(m.done) {
		switch p.call {
		case begin:
			return p.t
		case end:
			return 0
		}
	}
	return 0
}

func (m *model) word(i int) int {
	for _, p := range slices.Backward(m.done) {
		if p.call == put && p.i == i {
			return p.v
		}
	}
	return 0
}

func (m *model) words() []int {
	var all []int
	for i := range m.size {
		all = append(all, m.word(i))
	}
	return all
}

type fault struct {
	is bool
	e  api.Errno
}

// The faults of a call, in the chapter's order.
func (m *model) faults(p step) []fault {
	seq, writer := m.seq(), m.writer()
	noTask := fault{p.t < 1, api.ErrArg}
	noWord := fault{p.i < 0 || p.i >= m.size, api.ErrArg}
	notTheWriter := fault{p.t != writer, api.ErrMisuse}
	written := fault{writer != 0, api.ErrTorn}
	return [calls][]fault{
		begin: {noTask, {p.t == writer, api.ErrMisuse}, {writer != 0, api.ErrBusy}, {seq == mostSeq, api.ErrOver}},
		end:   {noTask, notTheWriter},
		put:   {noTask, noWord, notTheWriter},
		start: {written},
		word:  {noWord},
		same:  {{p.v != seq, api.ErrTorn}, written},
	}[p.call]
}

func (m *model) do(p step) answer {
	for _, f := range m.faults(p) {
		if f.is {
			return answer{e: f.e}
		}
	}
	switch p.call {
	case start:
		return answer{n: m.seq()}
	case word:
		return answer{n: m.word(p.i)}
	case same:
		return answer{}
	}
	m.done = append(m.done, p)
	return answer{}
}

func (m *model) is(t *testing.T, c *cell.Cell) {
	t.Helper()
	cellIs(t, c, m.seq(), m.writer(), m.words()...)
}

func (m *model) goesBy(t *testing.T, c *cell.Cell) {
	t.Helper()
	goesBy(t, c, m.seq(), m.writer(), m.words()...)
}

func (m *model) text() string {
	all := strconv.Itoa(m.seq()) + ":" + strconv.Itoa(m.writer())
	for _, v := range m.words() {
		all += " " + strconv.Itoa(v)
	}
	return all
}

// All calls of each of three tasks and a number that is none, with each word, the places beside them, these values, and each Seq from -1 on.
func allSteps(size, seqs int, vs []int) []step {
	all := []step{{call: start}}
	for task := range 4 {
		all = append(all, step{call: begin, t: task}, step{call: end, t: task})
		for i := -1; i <= size; i++ {
			for _, v := range vs {
				all = append(all, step{put, task, i, v})
			}
		}
	}
	for i := -1; i <= size; i++ {
		all = append(all, step{call: word, i: i})
	}
	for seq := -1; seq <= seqs+1; seq++ {
		all = append(all, step{call: same, v: seq})
	}
	return all
}

// P17.1 and P17.2: every call in all states that three tasks come to while Seq is from 0 to 6, for each size: whoever writes, and with all words that there may be of some values.
func TestAllStates(t *testing.T) {
	const seqs = 6
	for size, vs := range map[int][]int{1: {0, 1, -1, math.MaxInt, math.MinInt}, 2: {0, 7, -1}, 3: {0, -3}, 4: {0, math.MinInt}} {
		all := allSteps(size, seqs, vs)
		paths, known := [][]step{nil}, map[string]bool{(&model{size: size}).text(): true}
		for n := 0; n < len(paths); n++ {
			for _, p := range all {
				c, m := cell.New(size), &model{size: size}
				for _, earlier := range paths[n] {
					do(c, earlier)
					m.do(earlier)
				}
				doIs(t, c, p, m.do(p))
				if state := m.text(); m.seq() <= seqs && !known[state] {
					known[state] = true
					paths = append(paths, append(slices.Clone(paths[n]), p))
				}
				m.goesBy(t, c)
			}
		}
		each := 1
		for range size {
			each *= len(vs)
		}
		// At 0 all words are 0; from then on each of three tasks may write at an odd number, and nobody at an even one.
		if states := 1 + 3*(3+1)*each; len(paths) != states {
			t.Fatalf("with %d words %d states, not %d", size, len(paths), states)
		}
	}
}

// One of the calls, mostly by who writes, and of a task, a place, a value or a Seq that is mostly one.
func next(source *rand.Rand, m *model, tasks, often int) step {
	p := step{call: source.Intn(calls), t: 1 + source.Intn(tasks), i: source.Intn(m.size), v: m.seq() - source.Intn(3)}
	if source.Intn(3) == 0 {
		p.call = often
	}
	if writer := m.writer(); writer != 0 && source.Intn(2) == 0 {
		p.t = writer
	}
	if p.call == put {
		p.v = values[source.Intn(len(values))]
	}
	switch source.Intn(20) {
	case 0:
		p.t = never[source.Intn(len(never))]
	case 1:
		p.i = nowhere[source.Intn(len(nowhere))]
	case 2:
		p.v = source.Int() - source.Int()
	case 3:
		p.t = apart[source.Intn(len(apart))]
	}
	return p
}

// P17.1 and P17.2: long lives, in which one of the calls after the other is the most frequent in turn.
func TestManyLongLives(t *testing.T) {
	source := rand.New(rand.NewSource(17))
	for round := range 300 {
		m := &model{size: 1 + round%mostWords}
		c := cell.New(m.size)
		for range 200 {
			p := next(source, m, 1+round%9, round%calls)
			doIs(t, c, p, m.do(p))
			m.is(t, c)
		}
		m.goesBy(t, c)
	}
}

// P17.1 and P17.2: lives that begin shortly ahead of the last number, and go on when nobody can begin any more.
func TestLivesAtTheEnd(t *testing.T) {
	source := rand.New(rand.NewSource(18))
	for round := range 60 {
		m := &model{size: 1 + round%mostWords, before: mostSeq/2 - round%8}
		c := cell.New(m.size)
		writeOften(t, c, m.before)
		for range 200 {
			p := next(source, m, 1+round%5, round%calls)
			doIs(t, c, p, m.do(p))
			m.is(t, c)
		}
		m.goesBy(t, c)
	}
}

// P17.1 and P17.2 with R1: a nil Cell has no words, and nobody writes, or reads.
func TestNoCell(t *testing.T) {
	var c *cell.Cell
	for range 2 {
		for _, n := range slices.Concat(values, nowhere) {
			for call := range calls {
				doIs(t, c, step{call, n, 0, n}, answer{e: api.ErrArg})
				doIs(t, c, step{call, 1, n, n}, answer{e: api.ErrArg})
			}
			if c.Writer() != 0 || c.Size() != 0 {
				t.Fatalf("Writer is %d, and Size is %d", c.Writer(), c.Size())
			}
		}
	}
}

// R1: nor has a value that nobody made any words, whoever writes.
func TestNobodyMadeIt(t *testing.T) {
	c := &cell.Cell{}
	for range 2 {
		for _, i := range append(noWords(0), nowhere...) {
			wordIs(t, c, i, 0, api.ErrArg)
			putIs(t, c, 1, i, 9, api.ErrArg)
		}
		c.Begin(1)
	}
}

// R5: they keep nothing of each other, and asking changes nothing.
func TestApart(t *testing.T) {
	a, b := cell.New(2), cell.New(2)
	beginIs(t, a, 1, api.OK)
	putIs(t, a, 1, 0, 7, api.OK)
	cellIs(t, b, 0, 0, 0, 0)
	beginIs(t, b, 2, api.OK)
	putIs(t, b, 2, 1, 8, api.OK)
	endIs(t, b, 2, api.OK)
	for range 3 {
		cellIs(t, a, 1, 1, 7, 0)
		cellIs(t, b, 2, 0, 0, 8)
		cellIs(t, cell.New(4), 0, 0, 0, 0, 0, 0)
	}
	goesBy(t, b, 2, 0, 0, 8)
	goesBy(t, a, 1, 1, 7, 0)
}

// R5: nor do several that live at once.
func TestLivesApart(t *testing.T) {
	source := rand.New(rand.NewSource(5))
	for round := range 60 {
		var cells [3]*cell.Cell
		var models [3]*model
		for n := range cells {
			models[n] = &model{size: 1 + (round+n)%mostWords}
			cells[n] = cell.New(models[n].size)
		}
		for range 200 {
			n := source.Intn(len(cells))
			p := next(source, models[n], 1+round%5, round%calls)
			doIs(t, cells[n], p, models[n].do(p))
			for n, c := range cells {
				models[n].is(t, c)
			}
		}
		for n, c := range cells {
			models[n].goesBy(t, c)
		}
	}
}
