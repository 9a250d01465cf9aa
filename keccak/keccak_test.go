package keccak_test

import (
	"bytes"
	"crypto/sha3"
	"encoding/binary"
	"math"
	"math/rand"
	"testing"

	"parclose/keccak"
)

const rounds = 24

type state = [25]uint64

func roundIs(t *testing.T, s state, n int, want state) {
	if a := keccak.Round(s, n); a != want {
		t.Helper()
		t.Fatalf("Round(%x, %d) is %x, not %x", s, n, a, want)
	}
}

func permuteIs(t *testing.T, s, want state) {
	if a := keccak.Permute(s); a != want {
		t.Helper()
		t.Fatalf("Permute(%x) is %x, not %x", s, a, want)
	}
}

// Beside a state: its bits one by one, by their x, their y, and how far up they are in their lane.
type cube [5][5][64]bool

func cubeOf(s state) *cube {
	c := &cube{}
	c.each(func(x, y, z int) bool { return s[x+5*y]>>z&1 == 1 })
	return c
}

func (c *cube) state() state {
	var s state
	for i := range s {
		for z, on := range c[i%5][i/5] {
			if on {
				s[i] |= 1 << z
			}
		}
	}
	return s
}

func (c *cube) each(f func(x, y, z int) bool) {
	for x := range 5 {
		for y := range 5 {
			for z := range 64 {
				c[x][y][z] = f(x, y, z)
			}
		}
	}
}

// Step 1: whether the bits of two columns that are on are odd in number.
func (c *cube) columns() *cube {
	to := &cube{}
	to.each(func(x, y, z int) bool {
		on := c[x][y][z]
		for other := range 5 {
			on = on != c[(x+4)%5][other][z]
			on = on != c[(x+1)%5][other][(z+63)%64]
		}
		return on
	})
	return to
}

// How far lane (x, y) is turned: the chapter's walk, step by step.
func turn(x, y int) int {
	atX, atY := 1, 0
	for t := range 24 {
		if atX == x && atY == y {
			return (t + 1) * (t + 2) / 2 % 64
		}
		atX, atY = atY, (2*atX+3*atY)%5
	}
	return 0
}

// Step 2.
func (c *cube) turned() *cube {
	to := &cube{}
	for x := range 5 {
		for y := range 5 {
			by := turn(x, y)
			for z, on := range c[x][y] {
				to[y][(2*x+3*y)%5][(z+by)%64] = on
			}
		}
	}
	return to
}

// Step 3.
func (c *cube) rows() *cube {
	to := &cube{}
	to.each(func(x, y, z int) bool {
		return c[x][y][z] != (c[(x+2)%5][y][z] && !c[(x+1)%5][y][z])
	})
	return to
}

// The bit rc(t).
func rc(t int) bool {
	r := 1
	for range t {
		r *= 2
		if r >= 256 {
			r ^= 0x171
		}
	}
	return r%2 == 1
}

// Step 4.
func (c *cube) marked(n int) *cube {
	to := *c
	for j, z := range []int{0, 1, 3, 7, 15, 31, 63} {
		to[0][0][z] = c[0][0][z] != rc(j+7*n)
	}
	return &to
}

func roundByBits(s state, n int) state { return cubeOf(s).columns().turned().rows().marked(n).state() }

func permuteByBits(s state) state {
	for n := range rounds {
		s = roundByBits(s, n)
	}
	return s
}

func all(lane uint64) state {
	var s state
	for i := range s {
		s[i] = lane
	}
	return s
}

// Noughts, but for one lane.
func with(i int, lane uint64) state {
	var s state
	s[i] = lane
	return s
}

func anyState(source *rand.Rand) state {
	var s state
	for i := range s {
		s[i] = source.Uint64()
	}
	return s
}

// States of few bits and of nearly all, of lanes at their ends, and of lanes of which no two are alike.
func someStates() []state {
	list := []state{{}, all(math.MaxUint64), all(1), all(1 << 63), all(math.MaxInt64), all(0x5555555555555555), all(0xaaaaaaaaaaaaaaaa)}
	for i := range 25 {
		list = append(list, with(i, math.MaxUint64), with(i, 1), with(i, 1<<63))
	}
	source := rand.New(rand.NewSource(19))
	for range 20 {
		list = append(list, anyState(source))
	}
	return list
}

// P19.1: the chapter's example.
func TestExamples(t *testing.T) {
	roundIs(t, state{}, 0, state{0: 1})
}

// P19.1: each round of each of the states, against what is done bit by bit.
func TestRounds(t *testing.T) {
	for _, s := range someStates() {
		for n := range rounds {
			roundIs(t, s, n, roundByBits(s, n))
		}
	}
}

// P19.1: each bit by itself, alone or alone left out.
func TestEachBit(t *testing.T) {
	for bit := range 1600 {
		one := with(bit/64, 1<<(bit%64))
		rest := all(math.MaxUint64)
		rest[bit/64] ^= one[bit/64]
		n := bit % rounds
		roundIs(t, one, n, roundByBits(one, n))
		roundIs(t, rest, n, roundByBits(rest, n))
	}
}

// P19.1: what the rounds do differs in lane (0, 0) alone, by the bits rc.
func TestMarks(t *testing.T) {
	for n := range rounds {
		var mark uint64
		for j := range 7 {
			if rc(j + 7*n) {
				mark |= 1 << (1<<j - 1)
			}
		}
		roundIs(t, state{}, n, state{0: mark})
		for _, s := range someStates() {
			want := keccak.Round(s, 0)
			want[0] ^= 1 ^ mark
			roundIs(t, s, n, want)
		}
	}
}

// Numbers that are no round's: near the ends of those that are, like them in all bits but one, and at the ints' ends.
func noRounds() []int {
	list := []int{math.MinInt, math.MinInt + 1, -1 << 62, -1<<32 - 1, -1 << 32, -256, -25, -24, -23, -2, -1,
		24, 25, 31, 32, 47, 48, 63, 64, 254, 255, 256, 279, 280, 1<<31 - 1, 1 << 31, 1<<32 - 1, 1 << 32, 1 << 62, math.MaxInt - 1, math.MaxInt}
	for n := range rounds {
		for bit := 5; bit < 64; bit++ {
			list = append(list, n^1<<bit)
		}
		list = append(list, ^n, n+rounds, n-rounds, n-2*rounds)
	}
	return list
}

// P19.1: where there is no such round, a state stays as it is.
func TestNoRound(t *testing.T) {
	for _, s := range someStates() {
		for _, n := range noRounds() {
			roundIs(t, s, n, s)
		}
	}
}

// P19.1: all rounds in their order, against what is done bit by bit, and against Round.
func TestPermute(t *testing.T) {
	for _, s := range someStates() {
		want := s
		for n := range rounds {
			want = keccak.Round(want, n)
		}
		permuteIs(t, s, want)
		permuteIs(t, s, permuteByBits(s))
	}
}

// P19.1: what the permutation's makers say of the state of noughts, once and twice.
func TestNoughts(t *testing.T) {
	once := state{
		0xf1258f7940e1dde7, 0x84d5ccf933c0478a, 0xd598261ea65aa9ee, 0xbd1547306f80494d, 0x8b284e056253d057,
		0xff97a42d7f8e6fd4, 0x90fee5a0a44647c4, 0x8c5bda0cd6192e76, 0xad30a6f71b19059c, 0x30935ab7d08ffc64,
		0xeb5aa93f2317d635, 0xa9a6e6260d712103, 0x81a57c16dbcf555f, 0x43b831cd0347c826, 0x01f22f1a11a5569f,
		0x05e5635a21d9ae61, 0x64befef28cc970f2, 0x613670957bc46611, 0xb87c5a554fd00ecb, 0x8c3ee88a1ccf32c8,
		0x940c7922ae3a2614, 0x1841f924a2c509e4, 0x16f53526e70465c2, 0x75f644e97f30a13b, 0xeaf1ff7b5ceca249,
	}
	twice := state{
		0x2d5c954df96ecb3c, 0x6a332cd07057b56d, 0x093d8d1270d76b6c, 0x8a20d9b25569d094, 0x4f9c4f99e5e7f156,
		0xf957b9a2da65fb38, 0x85773dae1275af0d, 0xfaf4f247c3d810f7, 0x1f1b9ee6f79a8759, 0xe4fecc0fee98b425,
		0x68ce61b6b9ce68a1, 0xdeea66c4ba8f974f, 0x33c43d836eafb1f5, 0xe00654042719dbd9, 0x7cf8a9f009831265,
		0xfd5449a6bf174743, 0x97ddad33d8994b40, 0x48ead5fc5d0be774, 0xe3b8c8ee55b7b03c, 0x91a0226e649e42e9,
		0x900e3129e7badd7b, 0x202a9ec5faa3cce8, 0x5b3402464e1c3db6, 0x609f4e62a44c1059, 0x20d06cd26a8fbf5c,
	}
	permuteIs(t, state{}, once)
	permuteIs(t, once, twice)
}

// SHAKE256 by Permute: 136 bytes of a state take in what is told, and give what is answered.
func shake(told []byte, length int) []byte {
	const rate = 136
	told = append(bytes.Clone(told), 0x1f)
	for len(told)%rate != 0 {
		told = append(told, 0)
	}
	told[len(told)-1] |= 0x80
	var s state
	for ; len(told) > 0; told = told[rate:] {
		for i := range rate / 8 {
			s[i] ^= binary.LittleEndian.Uint64(told[8*i:])
		}
		s = keccak.Permute(s)
	}
	var answer []byte
	for len(answer) < length {
		for i := range rate / 8 {
			answer = binary.LittleEndian.AppendUint64(answer, s[i])
		}
		s = keccak.Permute(s)
	}
	return answer[:length]
}

// P19.1: the permutation is the one under SHA-3, as the library of the language has it.
func TestUnderSHA3(t *testing.T) {
	source := rand.New(rand.NewSource(3))
	for length := range 420 {
		told := make([]byte, length)
		source.Read(told)
		if a, want := shake(told, 300), sha3.SumSHAKE256(told, 300); !bytes.Equal(a, want) {
			t.Fatalf("of %x comes %x, not %x", told, a, want)
		}
	}
}

// P19.1: round behind round, and now and then one that is none, from states that come out of each other.
func TestManyLongLives(t *testing.T) {
	source := rand.New(rand.NewSource(20))
	none := noRounds()
	for range 60 {
		s := anyState(source)
		for range 40 {
			n := source.Intn(rounds)
			want := roundByBits(s, n)
			roundIs(t, s, n, want)
			other := none[source.Intn(len(none))]
			roundIs(t, want, other, want)
			s = want
		}
	}
}

// R4: a state that was handed in, or answered, is nobody else's.
func TestStatesAreValues(t *testing.T) {
	s := all(7)
	a, b := keccak.Round(s, 3), keccak.Permute(s)
	keptA, keptB := a, b
	keccak.Round(a, 3)
	keccak.Permute(b)
	if s != all(7) || a != keptA || b != keptB {
		t.Fatalf("%x, %x and %x changed", s, a, b)
	}
	a[0], b[24] = 1, 1
	roundIs(t, s, 3, keptA)
	permuteIs(t, s, keptB)
}

// R5: what was asked ahead changes nothing.
func TestApart(t *testing.T) {
	source := rand.New(rand.NewSource(5))
	list := someStates()
	var permuted, third []state
	for _, s := range list {
		permuted = append(permuted, permuteByBits(s))
		third = append(third, roundByBits(s, 3))
	}
	for range 2000 {
		i, other := source.Intn(len(list)), list[source.Intn(len(list))]
		keccak.Round(other, source.Intn(rounds+4)-2)
		permuteIs(t, list[i], permuted[i])
		keccak.Permute(other)
		roundIs(t, list[i], 3, third[i])
	}
}
