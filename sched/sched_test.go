package sched_test

import (
	"cmp"
	"math"
	"math/rand"
	"slices"
	"testing"

	"parclose/sched"
)

// Numbers that no task ever is: places beyond the eighth, rounds beyond the last, and numbers at their ends.
var never = []int{math.MinInt, math.MinInt + 1, math.MinInt + 16, -1 << 32, -4096, -17, -16, -15, -1, 0, 9, 15, 16, 25, 32, 4089, 4096, 4097, 1<<32 + 1, 1<<62 + 1, math.MaxInt - 15, math.MaxInt}

// A task that is wanted is 0: there is none.
func spawnIs(t *testing.T, s *sched.Sched, want int) {
	t.Helper()
	if task, ok := s.Spawn(); task != want || ok != (want > 0) {
		t.Fatalf("Spawn is %d, %v, not %d", task, ok, want)
	}
}

func exitIs(t *testing.T, s *sched.Sched, task int, want bool) {
	t.Helper()
	if ok := s.Exit(task); ok != want {
		t.Fatalf("Exit(%d) is %v", task, ok)
	}
}

func yieldIs(t *testing.T, s *sched.Sched, task int, want bool) {
	t.Helper()
	if ok := s.Yield(task); ok != want {
		t.Fatalf("Yield(%d) is %v", task, ok)
	}
}

func blockIs(t *testing.T, s *sched.Sched, task int, want bool) {
	t.Helper()
	if ok := s.Block(task); ok != want {
		t.Fatalf("Block(%d) is %v", task, ok)
	}
}

func readyIs(t *testing.T, s *sched.Sched, task int, want bool) {
	t.Helper()
	if ok := s.Ready(task); ok != want {
		t.Fatalf("Ready(%d) is %v", task, ok)
	}
}

// Those that can run, by Run and by each Pick, and nobody ahead of the first one or behind the last one.
func runIs(t *testing.T, s *sched.Sched, want ...int) {
	t.Helper()
	if row := s.Run(); !slices.Equal(row, want) {
		t.Fatalf("Run is %v, not %v", row, want)
	}
	for n := -2; n < 20; n++ {
		pickIs(t, s, n, want)
	}
	for _, n := range []int{math.MinInt, math.MinInt + 1, -1 << 32, -8, 32, 1 << 32, 1 << 62, math.MaxInt - 1, math.MaxInt} {
		pickIs(t, s, n, want)
	}
}

func pickIs(t *testing.T, s *sched.Sched, n int, row []int) {
	want := 0
	if 0 <= n && n < len(row) {
		want = row[n]
	}
	if task, ok := s.Pick(n); task != want || ok != (want > 0) {
		t.Helper()
		t.Fatalf("Pick(%d) is %d, %v, not %d", n, task, ok, want)
	}
}

// Just these are tasks, of all that may be a task and of some that may not.
func tasksAre(t *testing.T, s *sched.Sched, want ...int) {
	t.Helper()
	if list := s.Tasks(); !slices.Equal(list, want) {
		t.Fatalf("Tasks is %v, not %v", list, want)
	}
	for task := -40; task <= 4200; task++ {
		placeIs(t, s, task, want)
	}
	for _, task := range never {
		placeIs(t, s, task, want)
	}
}

func placeIs(t *testing.T, s *sched.Sched, task int, tasks []int) {
	want := -1
	if slices.Contains(tasks, task) {
		want = (task - 1) % 16
	}
	if place := s.Place(task); place != want {
		t.Helper()
		t.Fatalf("Place(%d) is %d, not %d", task, place, want)
	}
}

// Who is no task is refused by all.
func noTask(t *testing.T, s *sched.Sched, task int) {
	t.Helper()
	exitIs(t, s, task, false)
	yieldIs(t, s, task, false)
	blockIs(t, s, task, false)
	readyIs(t, s, task, false)
}

// With the tasks 1 to so many, all of which can run.
func with(t *testing.T, tasks int) *sched.Sched {
	t.Helper()
	s := sched.New(tasks)
	for task := 2; task <= tasks; task++ {
		spawnIs(t, s, task)
	}
	return s
}

// P9.1, P9.2: the chapter's examples.
func TestExamples(t *testing.T) {
	s := sched.New(2)
	if task, ok := s.Pick(0); task != 1 || !ok {
		t.Fatalf("Pick(0) is %d, %v", task, ok)
	}
	spawnIs(t, s, 2)
	spawnIs(t, s, 0)
	yieldIs(t, s, 1, true)
	runIs(t, s, 2, 1)
	blockIs(t, s, 2, true)
	exitIs(t, s, 2, true)
	spawnIs(t, s, 18)
	runIs(t, s, 1, 18)
}

// P9.1: New's number at its ends: one task that can run, and room for just so many.
func TestNew(t *testing.T) {
	for _, c := range [][2]int{
		{1, 1}, {2, 2}, {5, 5}, {7, 7}, {8, 8},
		{9, 8}, {16, 8}, {1 << 32, 8}, {math.MaxInt, 8}, {0, 1}, {-1, 1}, {-8, 1}, {-1 << 32, 1}, {math.MinInt, 1},
	} {
		s := sched.New(c[0])
		if s == nil {
			t.Fatalf("New(%d) is nil", c[0])
		}
		runIs(t, s, 1)
		tasksAre(t, s, 1)
		all := []int{1}
		for task := 2; task <= c[1]; task++ {
			spawnIs(t, s, task)
			all = append(all, task)
		}
		for range 2 {
			spawnIs(t, s, 0)
			runIs(t, s, all...)
			tasksAre(t, s, all...)
		}
	}
}

// P9.1: a new task goes behind all that can run, wherever its place is, and those that can not are still tasks.
func TestSpawnBehindAll(t *testing.T) {
	s := with(t, 4)
	yieldIs(t, s, 2, true)
	blockIs(t, s, 4, true)
	exitIs(t, s, 1, true)
	spawnIs(t, s, 17)
	runIs(t, s, 3, 2, 17)
	tasksAre(t, s, 17, 2, 3, 4)
	spawnIs(t, s, 0)
	readyIs(t, s, 4, true)
	runIs(t, s, 3, 2, 17, 4)
}

// P9.1: tasks that can not run take up the arena's places as well.
func TestSpawnBesideTheBlocked(t *testing.T) {
	s := with(t, 3)
	for task := 1; task <= 3; task++ {
		blockIs(t, s, task, true)
	}
	runIs(t, s)
	spawnIs(t, s, 0)
	tasksAre(t, s, 1, 2, 3)
	exitIs(t, s, 2, true)
	spawnIs(t, s, 18)
	runIs(t, s, 18)
	tasksAre(t, s, 1, 18, 3)
}

// P9.1: whoever exits, be it the first, one between or the last, the others stay in order.
func TestExitOfWhoCanRun(t *testing.T) {
	for task := 1; task <= 4; task++ {
		s := with(t, 4)
		exitIs(t, s, task, true)
		left := slices.DeleteFunc([]int{1, 2, 3, 4}, func(n int) bool { return n == task })
		runIs(t, s, left...)
		tasksAre(t, s, left...)
		noTask(t, s, task)
		runIs(t, s, left...)
		spawnIs(t, s, task+16)
		spawnIs(t, s, 0)
		runIs(t, s, append(left, task+16)...)
	}
}

// P9.1: a task that can not run exits as well, and can not be made ready any more.
func TestExitOfWhoCanNotRun(t *testing.T) {
	for task := 1; task <= 3; task++ {
		s := with(t, 3)
		blockIs(t, s, task, true)
		exitIs(t, s, task, true)
		left := slices.DeleteFunc([]int{1, 2, 3}, func(n int) bool { return n == task })
		noTask(t, s, task)
		runIs(t, s, left...)
		tasksAre(t, s, left...)
	}
}

// P9.1: places are taken again as an arena does it: the one that was given back last first, ahead of those never taken.
func TestPlacesComeAgain(t *testing.T) {
	s := sched.New(6)
	for task := 2; task <= 4; task++ {
		spawnIs(t, s, task)
	}
	exitIs(t, s, 3, true)
	exitIs(t, s, 1, true)
	exitIs(t, s, 4, true)
	for _, task := range []int{20, 17, 19, 5, 6, 0} {
		spawnIs(t, s, task)
	}
	runIs(t, s, 2, 20, 17, 19, 5, 6)
	tasksAre(t, s, 17, 2, 19, 20, 5, 6)
}

// P9.1: all may exit, and a task may be spawned when there is none.
func TestNobodyIsLeft(t *testing.T) {
	s := with(t, 2)
	blockIs(t, s, 1, true)
	exitIs(t, s, 2, true)
	runIs(t, s)
	tasksAre(t, s, 1)
	exitIs(t, s, 1, true)
	for range 2 {
		runIs(t, s)
		tasksAre(t, s)
		noTask(t, s, 1)
		noTask(t, s, 2)
	}
	spawnIs(t, s, 17)
	runIs(t, s, 17)
	tasksAre(t, s, 17)
}

// P9.1: a place has 256 tasks, of which New's own is the first, and then no more.
func TestAPlaceWearsOut(t *testing.T) {
	s := sched.New(1)
	for backs := range 255 {
		exitIs(t, s, 1+16*backs, true)
		spawnIs(t, s, 1+16*(backs+1))
	}
	runIs(t, s, 4081)
	tasksAre(t, s, 4081)
	exitIs(t, s, 4081, true)
	for range 3 {
		spawnIs(t, s, 0)
		runIs(t, s)
		tasksAre(t, s)
		noTask(t, s, 4081)
		noTask(t, s, 4097)
	}
}

// P9.1: beside a place that is worn out the others are taken as before; the highest task that may be is 4088.
func TestOthersGoOnBesideAWornOutPlace(t *testing.T) {
	s := with(t, 8)
	for backs := range 255 {
		exitIs(t, s, 8+16*backs, true)
		spawnIs(t, s, 8+16*(backs+1))
	}
	runIs(t, s, 1, 2, 3, 4, 5, 6, 7, 4088)
	tasksAre(t, s, 1, 2, 3, 4, 5, 6, 7, 4088)
	exitIs(t, s, 3, true)
	exitIs(t, s, 4088, true)
	spawnIs(t, s, 19)
	spawnIs(t, s, 0)
	runIs(t, s, 1, 2, 4, 5, 6, 7, 19)
	tasksAre(t, s, 1, 2, 19, 4, 5, 6, 7)
}

// P9.1, P9.2: a task that is no more says nothing of the one that has its place.
func TestStaleTasks(t *testing.T) {
	s := with(t, 2)
	exitIs(t, s, 2, true)
	spawnIs(t, s, 18)
	noTask(t, s, 2)
	noTask(t, s, 34)
	runIs(t, s, 1, 18)
	blockIs(t, s, 18, true)
	noTask(t, s, 2)
	noTask(t, s, 34)
	runIs(t, s, 1)
	readyIs(t, s, 18, true)
	runIs(t, s, 1, 18)
	tasksAre(t, s, 1, 18)
}

// P9.1, P9.2: numbers that are no task are refused, and nothing changes: neither who can run, nor who may be spawned.
func TestNoSuchTask(t *testing.T) {
	s := sched.New(4)
	spawnIs(t, s, 2)
	spawnIs(t, s, 3)
	blockIs(t, s, 2, true)
	yieldIs(t, s, 1, true)
	for _, task := range slices.Concat(never, []int{4, 5, 8, 17, 18, 19, 20, 33, 4081}) {
		noTask(t, s, task)
	}
	runIs(t, s, 3, 1)
	tasksAre(t, s, 1, 2, 3)
	spawnIs(t, s, 4)
	spawnIs(t, s, 0)
	runIs(t, s, 3, 1, 4)
}

// P9.2: Yield of each of those that can run, also of one that is the last already, or is alone.
func TestYield(t *testing.T) {
	for most := 1; most <= 8; most++ {
		for task := 1; task <= most; task++ {
			s := with(t, most)
			var want []int
			for n := 1; n <= most; n++ {
				if n != task {
					want = append(want, n)
				}
			}
			want = append(want, task)
			for range 2 {
				yieldIs(t, s, task, true)
				runIs(t, s, want...)
			}
			yieldIs(t, s, want[0], true)
			runIs(t, s, append(want[1:], want[0])...)
		}
	}
}

// P9.2: as each one yields in its turn, they go round.
func TestYieldGoesRound(t *testing.T) {
	s := with(t, 3)
	for range 2 {
		for _, row := range [][]int{{1, 2, 3}, {2, 3, 1}, {3, 1, 2}} {
			runIs(t, s, row...)
			task, _ := s.Pick(0)
			yieldIs(t, s, task, true)
		}
	}
}

// P9.2: who is blocked can not run, yield or be blocked again, is still a task, and can be made ready once.
func TestBlockAndReady(t *testing.T) {
	for task := 1; task <= 4; task++ {
		s := with(t, 4)
		left := slices.DeleteFunc([]int{1, 2, 3, 4}, func(n int) bool { return n == task })
		readyIs(t, s, task, false)
		runIs(t, s, 1, 2, 3, 4)
		blockIs(t, s, task, true)
		for range 2 {
			blockIs(t, s, task, false)
			yieldIs(t, s, task, false)
			runIs(t, s, left...)
			tasksAre(t, s, 1, 2, 3, 4)
		}
		readyIs(t, s, task, true)
		for range 2 {
			readyIs(t, s, task, false)
			runIs(t, s, append(left, task)...)
		}
	}
}

// P9.2: those that were blocked come back in the order in which they are made ready, whatever the one in which they went.
func TestReadyInOrder(t *testing.T) {
	s := with(t, 5)
	for _, task := range []int{2, 5, 1} {
		blockIs(t, s, task, true)
	}
	runIs(t, s, 3, 4)
	for _, task := range []int{5, 1, 2} {
		readyIs(t, s, task, true)
	}
	runIs(t, s, 3, 4, 5, 1, 2)
	tasksAre(t, s, 1, 2, 3, 4, 5)
}

// A task as the chapter tells it: its place's number of earlier ones, and when it came behind all others (0: it can not run).
type told struct {
	place, backs int
	since        int
}

func (w told) handle() int { return 1 + w.place + 16*w.backs }

// A Sched beside a list of tasks, in no order, with the places that were given back (the last one last).
type pair struct {
	s     *sched.Sched
	quota int
	tasks []told
	back  [][2]int
	fresh int
	now   int
}

func newPair(quota int) *pair {
	return &pair{s: sched.New(quota), quota: quota, tasks: []told{{since: 1}}, fresh: 1, now: 1}
}

func (p *pair) find(task int) int {
	return slices.IndexFunc(p.tasks, func(w told) bool { return w.handle() == task })
}

func (p *pair) canRun(task int) bool {
	n := p.find(task)
	return n >= 0 && p.tasks[n].since > 0
}

func (p *pair) spawn(t *testing.T) {
	p.now++
	w := told{since: p.now}
	switch last := len(p.back) - 1; {
	case last >= 0:
		w.place, w.backs = p.back[last][0], p.back[last][1]
		p.back = p.back[:last]
	case p.fresh < p.quota:
		w.place = p.fresh
		p.fresh++
	default:
		spawnIs(t, p.s, 0)
		return
	}
	p.tasks = append(p.tasks, w)
	spawnIs(t, p.s, w.handle())
}

func (p *pair) exit(t *testing.T, task int) {
	n := p.find(task)
	if n >= 0 {
		if w := p.tasks[n]; w.backs < 255 {
			p.back = append(p.back, [2]int{w.place, w.backs + 1})
		}
		p.tasks = slices.Delete(p.tasks, n, n+1)
	}
	exitIs(t, p.s, task, n >= 0)
}

func (p *pair) step(t *testing.T, what, task int) {
	p.now++
	can, n := p.canRun(task), p.find(task)
	switch what {
	case 0:
		p.spawn(t)
	case 1:
		p.exit(t, task)
	case 2:
		if can {
			p.tasks[n].since = p.now
		}
		yieldIs(t, p.s, task, can)
	case 3:
		if can {
			p.tasks[n].since = 0
		}
		blockIs(t, p.s, task, can)
	default:
		if n >= 0 && !can {
			p.tasks[n].since = p.now
		}
		readyIs(t, p.s, task, n >= 0 && !can)
	}
}

func (p *pair) run() []int {
	var can []told
	for _, w := range p.tasks {
		if w.since > 0 {
			can = append(can, w)
		}
	}
	slices.SortFunc(can, func(a, b told) int { return cmp.Compare(a.since, b.since) })
	return handles(can)
}

func (p *pair) all() []int {
	list := slices.Clone(p.tasks)
	slices.SortFunc(list, func(a, b told) int { return cmp.Compare(a.place, b.place) })
	return handles(list)
}

func handles(list []told) []int {
	var out []int
	for _, w := range list {
		out = append(out, w.handle())
	}
	return out
}

// All that may be asked, of the numbers that may be tasks by now.
func (p *pair) same(t *testing.T) {
	t.Helper()
	row, all := p.run(), p.all()
	if got := p.s.Run(); !slices.Equal(got, row) {
		t.Fatalf("Run is %v, not %v", got, row)
	}
	if got := p.s.Tasks(); !slices.Equal(got, all) {
		t.Fatalf("Tasks is %v, not %v", got, all)
	}
	for n := -1; n < 9; n++ {
		pickIs(t, p.s, n, row)
	}
	for task := -1; task < 70; task++ {
		placeIs(t, p.s, task, all)
	}
	for _, task := range all {
		placeIs(t, p.s, task, all)
	}
}

// P9.1, P9.2: all lives of four steps, for one to three tasks, of which some were spawned ahead; of the first tasks of three places, a second one, and one that is none.
func TestAllShortLives(t *testing.T) {
	steps := [][2]int{{0, 0}}
	for what := 1; what <= 4; what++ {
		for _, task := range []int{1, 2, 3, 17} {
			steps = append(steps, [2]int{what, task})
		}
	}
	for quota := 1; quota <= 3; quota++ {
		for ahead := range quota {
			allLives(t, quota, slices.Repeat(steps[:1], ahead), steps, 4)
		}
	}
}

// All lives that begin like this one, with so many more steps.
func allLives(t *testing.T, quota int, life, steps [][2]int, more int) {
	if more > 0 {
		for _, c := range steps {
			allLives(t, quota, append(slices.Clone(life), c), steps, more-1)
		}
		return
	}
	p := newPair(quota)
	for _, c := range life {
		p.step(t, c[0], c[1])
	}
	p.same(t)
}

// P9.1, P9.2: long lives, with tasks that are there, are no more, or never were.
func TestManyLongLives(t *testing.T) {
	source := rand.New(rand.NewSource(9))
	kinds := []int{0, 0, 1, 2, 2, 3, 3, 4, 4}
	for round := range 160 {
		p := newPair(1 + round%8)
		for range 400 {
			task := 1 + source.Intn(70)
			if all := p.all(); len(all) > 0 && source.Intn(6) > 0 {
				task = all[source.Intn(len(all))]
			}
			p.step(t, kinds[source.Intn(len(kinds))], task)
			p.same(t)
		}
	}
}

// P9.1, P9.2: tasks come and go till all places are worn out.
func TestLivesToTheEnd(t *testing.T) {
	source := rand.New(rand.NewSource(99))
	for quota := 1; quota <= 3; quota++ {
		p := newPair(quota)
		for len(p.tasks)+len(p.back) > 0 || p.fresh < quota {
			if all := p.all(); len(all) > 0 && source.Intn(2) > 0 {
				p.step(t, 1+source.Intn(4), all[source.Intn(len(all))])
			} else {
				p.step(t, 0, 0)
			}
			p.same(t)
		}
		spawnIs(t, p.s, 0)
		tasksAre(t, p.s)
	}
}

// R1: a nil Sched has no tasks and room for none, nor has a value that nobody made.
func TestNoSched(t *testing.T) {
	for _, s := range []*sched.Sched{nil, {}} {
		for range 2 {
			for _, task := range slices.Concat(never, []int{1, 2, 8, 17, 4081}) {
				noTask(t, s, task)
			}
			spawnIs(t, s, 0)
			runIs(t, s)
			tasksAre(t, s)
		}
	}
}

// Whoever is handed a list writes to it, and into its spare room.
func spoil(list []int) {
	whole := list[:cap(list)]
	for i := range whole {
		whole[i] = -7
	}
}

// R4: what is done to a list that was answered changes no other list and no task.
func TestListsAreNewMemory(t *testing.T) {
	for _, ask := range []func(*sched.Sched) []int{(*sched.Sched).Run, (*sched.Sched).Tasks} {
		s := with(t, 5)
		exitIs(t, s, 5, true)
		one, other := ask(s), ask(s)
		spoil(one)
		_ = append(one, 8, 9)
		if !slices.Equal(other, []int{1, 2, 3, 4}) {
			t.Errorf("the other list became %v", other)
		}
		runIs(t, s, 1, 2, 3, 4)
		tasksAre(t, s, 1, 2, 3, 4)
		spawnIs(t, s, 21)
		spoil(one)
		runIs(t, s, 1, 2, 3, 4, 21)
		tasksAre(t, s, 1, 2, 3, 4, 21)
		yieldIs(t, s, 1, true)
		exitIs(t, s, 2, true)
		if !slices.Equal(other, []int{1, 2, 3, 4}) {
			t.Errorf("the list followed the tasks: %v", other)
		}
	}
}

// R4: nor does a list share the room of tasks that come later, when it was answered while nobody could run.
func TestAnEmptyListHasNoRoomInCommon(t *testing.T) {
	s := with(t, 2)
	blockIs(t, s, 1, true)
	blockIs(t, s, 2, true)
	empty := s.Run()
	readyIs(t, s, 2, true)
	readyIs(t, s, 1, true)
	spoil(empty)
	_ = append(empty, 8, 9)
	runIs(t, s, 2, 1)
}

// R5: domains' tasks keep nothing of each other, and asking changes nothing.
func TestSchedsAreApart(t *testing.T) {
	a, b := sched.New(3), sched.New(3)
	spawnIs(t, a, 2)
	tasksAre(t, b, 1)
	noTask(t, b, 2)
	blockIs(t, a, 1, true)
	runIs(t, b, 1)
	spawnIs(t, b, 2)
	spawnIs(t, b, 3)
	exitIs(t, b, 1, true)
	for range 3 {
		runIs(t, a, 2)
		tasksAre(t, a, 1, 2)
		runIs(t, b, 2, 3)
		tasksAre(t, b, 2, 3)
	}
	readyIs(t, a, 1, true)
	runIs(t, a, 2, 1)
	spawnIs(t, b, 17)
	runIs(t, sched.New(3), 1)
}
