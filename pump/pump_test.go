package pump_test

import (
	"math"
	"math/rand"
	"slices"
	"testing"

	"parclose/api"
	"parclose/pump"
)

const most = 8

// Numbers at their ends, and some that are alike in many of their bits: values are any numbers.
var values = []int{math.MinInt, math.MinInt + 1, -1 << 62, -1<<32 + 1, -1 << 32, -257, -256, -17, -9, -8, -2, -1, 0,
	1, 2, 7, 8, 9, 16, 255, 256, 257, 1 << 31, 1<<32 - 1, 1 << 32, 1<<32 + 1, 1 << 62, 1<<62 + 1, math.MaxInt - 1, math.MaxInt}

type answer struct {
	v, lost, after int
	e              api.Errno
}

func recvIs(t *testing.T, p *pump.Pump, next int, want answer) {
	var a answer
	a.v, a.lost, a.after, a.e = p.Recv(next)
	if a != want {
		t.Helper()
		t.Fatalf("Recv(%d) is %v, not %v", next, a, want)
	}
}

func sendIs(t *testing.T, p *pump.Pump, v int, e api.Errno) {
	if a := p.Send(v); a != e {
		t.Helper()
		t.Fatalf("Send(%d) is %d, not %d", v, a, e)
	}
}

func totalIs(t *testing.T, p *pump.Pump, want int) {
	if n := p.Total(); n != want {
		t.Helper()
		t.Fatalf("Total is %d, not %d", n, want)
	}
}

// Beside a Pump: all that was sent, the first one first.
type model struct {
	size int
	sent []int
}

func (m *model) keeps(i int) bool { return i+m.size >= len(m.sent) }

// It goes through all that the reader has not come to, one by one.
func (m *model) recv(next int) answer {
	if next < 0 || next > len(m.sent) {
		return answer{e: api.ErrArg}
	}
	a := answer{after: next, e: api.ErrNone}
	for i := next; i < len(m.sent) && a.e != api.OK; i++ {
		a.after++
		if m.keeps(i) {
			a.v, a.e = m.sent[i], api.OK
		} else {
			a.lost++
		}
	}
	if a.e != api.OK {
		a.v, a.lost = 0, 0
	}
	return a
}

// Numbers that are how far no reader has come, though they are near to it, or like it in some of their bits.
func (m *model) nowhere() []int {
	total := len(m.sent)
	all := []int{-1, -2, -8, -9, -total - 1, -total - 2, ^total, math.MinInt + total, math.MinInt, math.MinInt + 1, -1 << 62, -1 << 32,
		total + 1, total + 2, total + 7, total + 8, total + 9, total + 1<<8, total + 1<<31, total + 1<<32, total + 1<<62,
		math.MaxInt - total - 1, math.MaxInt - 8, math.MaxInt - 7, math.MaxInt - 1, math.MaxInt}
	for n := range 63 {
		if next := total ^ 1<<n; next > total {
			all = append(all, next)
		}
	}
	return all
}

// All that can be seen, for all readers.
func (m *model) is(t *testing.T, p *pump.Pump) {
	t.Helper()
	total := len(m.sent)
	totalIs(t, p, total)
	for next := -2; next <= total+2; next++ {
		recvIs(t, p, next, m.recv(next))
	}
	for _, next := range m.nowhere() {
		recvIs(t, p, next, answer{e: api.ErrArg})
	}
	totalIs(t, p, total)
}

func (m *model) send(t *testing.T, p *pump.Pump, v int) {
	t.Helper()
	sendIs(t, p, v, api.OK)
	m.sent = append(m.sent, v)
}

// What is sent from now on drives out all that is kept, one by one.
func (m *model) goesBy(t *testing.T, p *pump.Pump) {
	t.Helper()
	m.is(t, p)
	for n := range m.size + 1 {
		m.send(t, p, -1000*(n+1))
		m.is(t, p)
	}
}

// So many were sent: numbers that are all different, and none of which tells its place.
func with(t *testing.T, size, count int) (*pump.Pump, *model) {
	t.Helper()
	p, m := pump.New(size), &model{size: size}
	for n := range count {
		m.send(t, p, 1000+37*n%1009)
	}
	return p, m
}

// P18.1 and P18.2: the chapter's examples.
func TestExamples(t *testing.T) {
	p := pump.New(2)
	for _, v := range []int{7, 8, 9} {
		sendIs(t, p, v, api.OK)
	}
	recvIs(t, p, 0, answer{8, 1, 2, api.OK})
	recvIs(t, p, 2, answer{9, 0, 3, api.OK})
	recvIs(t, p, 3, answer{0, 0, 3, api.ErrNone})
	recvIs(t, p, 4, answer{0, 0, 0, api.ErrArg})
}

// P18.1: to a new one nothing was sent; it keeps as many as were asked for, but at least one and at most eight.
func TestNew(t *testing.T) {
	for _, c := range [][2]int{
		{1, 1}, {2, 2}, {3, 3}, {4, 4}, {5, 5}, {6, 6}, {7, 7}, {8, 8},
		{0, 1}, {-1, 1}, {-2, 1}, {-3, 1}, {-8, 1}, {-9, 1}, {-1 << 32, 1}, {-1<<32 + 2, 1}, {-1 << 62, 1}, {math.MinInt, 1}, {math.MinInt + 3, 1},
		{9, 8}, {10, 8}, {16, 8}, {17, 8}, {256, 8}, {258, 8}, {1 << 32, 8}, {1<<32 + 2, 8}, {1 << 62, 8}, {math.MaxInt - 1, 8}, {math.MaxInt, 8},
	} {
		p, m := pump.New(c[0]), &model{size: c[1]}
		if p == nil {
			t.Fatalf("New(%d) is nil", c[0])
		}
		totalIs(t, p, 0)
		recvIs(t, p, 0, answer{e: api.ErrNone})
		for n := range 3*most + 1 {
			m.is(t, p)
			m.send(t, p, 50-n)
		}
		m.goesBy(t, p)
	}
}

// P18.1 and P18.2: each size, and each number that was sent before, up to some rounds: every reader's next value, and what is lost ahead of it.
func TestAllStates(t *testing.T) {
	for size := 1; size <= most; size++ {
		for count := range 4*most + 2 {
			p, m := with(t, size, count)
			m.goesBy(t, p)
		}
	}
}

// P18.2: just the last ones are kept: while no more were sent than that nothing is lost, and from then on one more with each.
func TestLost(t *testing.T) {
	for size := 1; size <= most; size++ {
		p := pump.New(size)
		for n := range 5 * most {
			sendIs(t, p, 100+n, api.OK)
			lost := max(0, n+1-size)
			recvIs(t, p, 0, answer{100 + lost, lost, lost + 1, api.OK})
			recvIs(t, p, n, answer{100 + n, 0, n + 1, api.OK})
		}
	}
}

// P18.2: a reader that has read, or lost, all is told that there is none, and where it is; one beyond that is none.
func TestNone(t *testing.T) {
	for size := 1; size <= most; size++ {
		p := pump.New(size)
		for n := range 40 {
			recvIs(t, p, n, answer{0, 0, n, api.ErrNone})
			recvIs(t, p, n+1, answer{e: api.ErrArg})
			recvIs(t, p, -1, answer{e: api.ErrArg})
			sendIs(t, p, -n, api.OK)
		}
	}
}

// P18.1 and P18.2: any number is sent, and told as it is, be it once or again and again.
func TestAnyValues(t *testing.T) {
	for size := 1; size <= most; size++ {
		p, m := pump.New(size), &model{size: size}
		for _, v := range values {
			for _, w := range values {
				m.send(t, p, v)
				m.send(t, p, w)
				total := len(m.sent)
				recvIs(t, p, total-1, answer{w, 0, total, api.OK})
				if size > 1 {
					recvIs(t, p, total-2, answer{v, 0, total - 1, api.OK})
				} else {
					recvIs(t, p, total-2, answer{w, 1, total, api.OK})
				}
			}
		}
		m.goesBy(t, p)
	}
}

// P18.1: as many as are sent, Total tells: numbers of them beyond what a short integer holds, one by one.
func TestTotalOneByOne(t *testing.T) {
	const end = 1<<21 + 5
	for size := 1; size <= most; size++ {
		p := pump.New(size)
		for n := range end {
			sendIs(t, p, 3*n, api.OK)
			totalIs(t, p, n+1)
			first := max(0, n+1-size)
			recvIs(t, p, first, answer{3 * first, 0, first + 1, api.OK})
		}
		for _, next := range []int{0, 1, 255, 256, 1<<16 - 1, 1 << 16, 1<<20 - 1, 1 << 20, end - size - 1, end - size} {
			first := end - size
			recvIs(t, p, next, answer{3 * first, first - next, first + 1, api.OK})
		}
		recvIs(t, p, end, answer{0, 0, end, api.ErrNone})
		recvIs(t, p, end+1, answer{e: api.ErrArg})
	}
}

// P18.2: nothing changes, however often, and by whomever, it is read; and so who sends can not tell whether anybody reads.
func TestReadingChangesNothing(t *testing.T) {
	for size := 1; size <= most; size++ {
		p, m := with(t, size, 0)
		quiet, _ := with(t, size, 0)
		for n := range 3 * most {
			for range 3 {
				m.is(t, p)
			}
			m.send(t, p, 7*n)
			sendIs(t, quiet, 7*n, api.OK)
			totalIs(t, quiet, p.Total())
		}
		m.is(t, quiet)
		m.is(t, p)
	}
}

// A reader of its own, with what it read, and lost, so far.
type reader struct {
	at, lost int
	read     []int
}

func (r *reader) goesOn(t *testing.T, p *pump.Pump, m *model) {
	t.Helper()
	recvIs(t, p, r.at, m.recv(r.at))
	v, lost, after, e := p.Recv(r.at)
	if e == api.OK {
		r.read = append(r.read, v)
	}
	r.lost += lost
	r.at = after
	if r.at != r.lost+len(r.read) || r.at > len(m.sent) {
		t.Fatalf("a reader is at %d of %d, and read %d and lost %d", r.at, len(m.sent), len(r.read), r.lost)
	}
}

// P18.2: each reader gets some of what was sent, in order, none twice, and is told how many it missed; it comes to an end when nobody sends.
func TestReaders(t *testing.T) {
	source := rand.New(rand.NewSource(2))
	for round := range 200 {
		size := 1 + round%most
		p, m := with(t, size, 0)
		readers := make([]reader, 4)
		for n := range 300 {
			if source.Intn(1+round%7) == 0 {
				m.send(t, p, 1000+n)
				continue
			}
			readers[min(source.Intn(4), source.Intn(4))].goesOn(t, p, m)
		}
		for n := range readers {
			r := &readers[n]
			for range m.size + 1 {
				r.goesOn(t, p, m)
			}
			if r.at != len(m.sent) || !slices.IsSorted(r.read) || len(slices.Compact(slices.Clone(r.read))) != len(r.read) {
				t.Fatalf("of %v a reader has %v, and is at %d", m.sent, r.read, r.at)
			}
		}
	}
}

// P18.2: who goes on after each value that is sent loses nothing, and gets all.
func TestReaderAtOnce(t *testing.T) {
	for size := 1; size <= most; size++ {
		p, m := with(t, size, 0)
		var r reader
		for _, v := range values {
			m.send(t, p, v)
			r.goesOn(t, p, m)
			r.goesOn(t, p, m)
		}
		if r.lost != 0 || !slices.Equal(r.read, values) {
			t.Fatalf("it lost %d and has %v", r.lost, r.read)
		}
	}
}

// P18.1 and P18.2: long lives, with values of all kinds, looked at now and then.
func TestManyLongLives(t *testing.T) {
	source := rand.New(rand.NewSource(18))
	for round := range 300 {
		p, m := with(t, 1+round%most, 0)
		for range 20 {
			for range source.Intn(3 + round%9) {
				v := source.Int() - source.Int()
				if source.Intn(3) == 0 {
					v = values[source.Intn(len(values))]
				}
				m.send(t, p, v)
			}
			m.is(t, p)
		}
		m.goesBy(t, p)
	}
}

// P18.1 and P18.2 with R1: to a nil Pump nothing is sent, and of it nothing is read.
func TestNoPump(t *testing.T) {
	var p *pump.Pump
	for range 2 {
		for _, n := range values {
			sendIs(t, p, n, api.ErrArg)
			recvIs(t, p, n, answer{e: api.ErrArg})
			totalIs(t, p, 0)
		}
	}
}

// R1: a value that nobody made answers as well, wherever a reader is.
func TestNobodyMadeIt(t *testing.T) {
	p := &pump.Pump{}
	for range 2 * most {
		p.Send(7)
		for _, next := range values {
			p.Recv(next)
		}
		p.Total()
	}
}

// R5: they keep nothing of each other.
func TestApart(t *testing.T) {
	a, b := pump.New(2), pump.New(3)
	sendIs(t, a, 7, api.OK)
	totalIs(t, b, 0)
	recvIs(t, b, 0, answer{e: api.ErrNone})
	sendIs(t, b, 8, api.OK)
	sendIs(t, b, 9, api.OK)
	for range 3 {
		(&model{2, []int{7}}).is(t, a)
		(&model{3, []int{8, 9}}).is(t, b)
		(&model{size: 1}).is(t, pump.New(1))
	}
	(&model{3, []int{8, 9}}).goesBy(t, b)
	(&model{2, []int{7}}).goesBy(t, a)
}

// R5: nor do several that live at once.
func TestLivesApart(t *testing.T) {
	for round := range 60 {
		source := rand.New(rand.NewSource(int64(round)))
		var pumps [3]*pump.Pump
		var models [3]*model
		for n := range pumps {
			pumps[n], models[n] = with(t, 1+(round+3*n)%most, 0)
		}
		for range 60 {
			n := source.Intn(len(pumps))
			models[n].send(t, pumps[n], source.Intn(1000))
			for n, p := range pumps {
				models[n].is(t, p)
			}
		}
		for n, p := range pumps {
			models[n].goesBy(t, p)
		}
	}
}
