package lock_test

import (
	"fmt"
	"math"
	"math/rand"
	"slices"
	"testing"

	"taffrail/api"
	"taffrail/lock"
)

// noNumbers: numbers that are no task's and no mutex's: those next to the bounds, None, the least and the greatest, and some that a cut to fewer bits would bring in range.
var noNumbers = []int{-1, 64, -2, 65, -32, -33, -63, -64, -65, 127, 128, 254, 255, 256, -255, -256, 1 << 16, 1 << 31, -1 << 31, 1<<31 - 1, 1<<32 - 1, 1 << 32, 1<<32 + 1, -1 << 32, math.MaxInt, math.MaxInt - 1, math.MinInt, math.MinInt + 1}

// errors: those that a call may answer, for what a failing test tells.
var errors = map[api.Errno]string{api.OK: "OK", api.ErrArg: "ErrArg", api.ErrNone: "ErrNone", api.ErrOwner: "ErrOwner", api.ErrCycle: "ErrCycle", api.ErrNil: "ErrNil"}

// pair is a task, and a mutex that it has or waits for.
type pair struct{ task, mutex int }

// model is mutexes by the chapter's words: who has what, and who waits for what, the one that came first in front.
type model struct {
	own     []int
	mutexes int
	has     []pair
	waits   []pair
}

func (m *model) isTask(task int) bool { return slices.Contains(by(len(m.own), itself), task) }

func (m *model) isMutex(mutex int) bool { return slices.Contains(by(m.mutexes, itself), mutex) }

// owner: who has a mutex; None, if nobody has.
func (m *model) owner(mutex int) int {
	for _, p := range m.has {
		if p.mutex == mutex {
			return p.task
		}
	}
	return api.None
}

// waitsFor: the mutex that a task waits for; -1, if it waits for none.
func (m *model) waitsFor(task int) int {
	for _, p := range m.waits {
		if p.task == task {
			return p.mutex
		}
	}
	return -1
}

// waiting: who waits for a mutex, in order.
func (m *model) waiting(mutex int) []int {
	var tasks []int
	for _, p := range m.waits {
		if p.mutex == mutex {
			tasks = append(tasks, p.task)
		}
	}
	return tasks
}

// held: the mutexes that a task has, rising.
func (m *model) held(task int) []int {
	var mutexes []int
	for _, p := range m.has {
		if p.task == task {
			mutexes = append(mutexes, p.mutex)
		}
	}
	slices.Sort(mutexes)
	return mutexes
}

// level: the least of a task's own one and of those of all tasks that wait for a mutex that it has.
func (m *model) level(task int) int {
	level := m.own[task]
	for _, mutex := range m.held(task) {
		for _, waiter := range m.waiting(mutex) {
			level = min(level, m.level(waiter))
		}
	}
	return level
}

func (m *model) levels() []int { return by(len(m.own), m.level) }

// closes: would a circle be closed, if the task waited for the mutex: is it its owner, or does its owner wait for a mutex by which one would be closed?
func (m *model) closes(task, mutex int) bool {
	for _, p := range m.has {
		if p.mutex == mutex && (p.task == task || m.closes(task, m.waitsFor(p.task))) {
			return true
		}
	}
	return false
}

func (m *model) lock(task, mutex int) (bool, api.Errno) {
	if !m.isTask(task) || m.waitsFor(task) >= 0 {
		return false, api.ErrArg
	}
	if !m.isMutex(mutex) {
		return false, api.ErrNone
	}
	if m.owner(mutex) == task {
		return false, api.ErrOwner
	}
	if m.owner(mutex) == api.None {
		m.has = append(m.has, pair{task, mutex})
		return true, api.OK
	}
	if m.closes(task, mutex) {
		return false, api.ErrCycle
	}
	m.waits = append(m.waits, pair{task, mutex})
	return false, api.OK
}

func (m *model) unlock(task, mutex int) (int, api.Errno) {
	if !m.isTask(task) {
		return api.None, api.ErrArg
	}
	if !m.isMutex(mutex) {
		return api.None, api.ErrNone
	}
	if m.owner(mutex) != task {
		return api.None, api.ErrOwner
	}
	next := m.turn(mutex)
	m.has = without(m.has, pair{task, mutex})
	if next != api.None {
		m.has = append(m.has, pair{next, mutex})
		m.waits = without(m.waits, pair{next, mutex})
	}
	return next, api.OK
}

// turn: of those that wait for a mutex, level by level, the first one; None, if nobody waits.
func (m *model) turn(mutex int) int {
	for level := range 32 {
		for _, task := range m.waiting(mutex) {
			if m.level(task) == level {
				return task
			}
		}
	}
	return api.None
}

// without: the pairs but for one of them.
func without(pairs []pair, p pair) []pair {
	return slices.DeleteFunc(slices.Clone(pairs), func(other pair) bool { return other == p })
}

func itself(k int) int { return k }

// by: so many numbers, each as a rule says.
func by(n int, rule func(k int) int) []int {
	list := make([]int, n)
	for k := range list {
		list[k] = rule(k)
	}
	return list
}

// same: so many numbers, all of them this one.
func same(n, number int) []int { return slices.Repeat([]int{number}, n) }

// call is one that may change something: of Lock, or of Unlock.
type call struct {
	unlock      bool
	task, mutex int
}

func lk(task, mutex int) call { return call{false, task, mutex} }

func un(task, mutex int) call { return call{true, task, mutex} }

// text: as a failing test tells it.
func (c call) text() string {
	if c.unlock {
		return fmt.Sprintf("Unlock(%d, %d)", c.task, c.mutex)
	}
	return fmt.Sprintf("Lock(%d, %d)", c.task, c.mutex)
}

// on: what a Locks answers to the call.
func (c call) on(l *lock.Locks) string {
	if c.unlock {
		task, err := l.Unlock(c.task, c.mutex)
		return fmt.Sprint(task, " ", errors[err])
	}
	has, err := l.Lock(c.task, c.mutex)
	return fmt.Sprint(has, " ", errors[err])
}

// onModel: what a model answers to the call.
func (c call) onModel(m *model) string {
	if c.unlock {
		task, err := m.unlock(c.task, c.mutex)
		return fmt.Sprint(task, " ", errors[err])
	}
	has, err := m.lock(c.task, c.mutex)
	return fmt.Sprint(has, " ", errors[err])
}

// answers: fails, unless the call is answered so.
func answers(t *testing.T, l *lock.Locks, c call, want string) {
	t.Helper()
	if got := c.on(l); got != want {
		t.Fatalf("%s: %s, not %s", c.text(), got, want)
	}
}

// picture is all that can be asked: who has each mutex, who waits for it, and the tasks' levels.
type picture struct {
	owners  []int
	waiting [][]int
	levels  []int
}

// picture: as the model stands.
func (m *model) picture() picture {
	p := picture{owners: by(m.mutexes, m.owner), levels: m.levels()}
	for mutex := range m.mutexes {
		p.waiting = append(p.waiting, m.waiting(mutex))
	}
	return p
}

// held: the mutexes that a task has, rising.
func (p picture) held(task int) []int {
	var held []int
	for mutex, owner := range p.owners {
		if owner == task {
			held = append(held, mutex)
		}
	}
	return held
}

// waitsFor: the mutex that a task waits for; -1, if it waits for none.
func (p picture) waitsFor(task int) int {
	return slices.IndexFunc(p.waiting, func(row []int) bool { return slices.Contains(row, task) })
}

// shows: fails, unless all stands so, whatever is asked.
func shows(t *testing.T, l *lock.Locks, p picture) {
	t.Helper()
	if got := l.Levels(); !slices.Equal(got, p.levels) {
		t.Fatalf("Levels: %d, not %d", got, p.levels)
	}
	for mutex, owner := range p.owners {
		if got := l.Owner(mutex); got != owner {
			t.Fatalf("Owner(%d): %d, not %d", mutex, got, owner)
		}
		if got := l.Waiting(mutex); !slices.Equal(got, p.waiting[mutex]) {
			t.Fatalf("Waiting(%d): %d, not %d", mutex, got, p.waiting[mutex])
		}
	}
	for task := range p.levels {
		if got, want := l.Waits(task), p.waitsFor(task); got != want {
			t.Fatalf("Waits(%d): %d, not %d", task, got, want)
		}
		if got, want := l.Held(task), p.held(task); !slices.Equal(got, want) {
			t.Fatalf("Held(%d): %d, not %d", task, got, want)
		}
	}
	showsNoOthers(t, l, len(p.levels), len(p.owners))
}

// showsNoOthers: fails, unless the tasks and the mutexes beyond so many have nothing.
func showsNoOthers(t *testing.T, l *lock.Locks, tasks, mutexes int) {
	t.Helper()
	for _, task := range append([]int{tasks, tasks + 1, 63}, noNumbers...) {
		if task >= 0 && task < tasks {
			continue
		}
		if waits, held := l.Waits(task), l.Held(task); waits != -1 || len(held) > 0 {
			t.Fatalf("Waits(%d): %d, and Held: %d", task, waits, held)
		}
	}
	for _, mutex := range append([]int{mutexes, mutexes + 1, 31, 32}, noNumbers...) {
		if mutex >= 0 && mutex < mutexes {
			continue
		}
		if owner, waiting := l.Owner(mutex), l.Waiting(mutex); owner != 255 || len(waiting) > 0 {
			t.Fatalf("Owner(%d): %d, and Waiting: %d", mutex, owner, waiting)
		}
	}
}

// both are a Locks and its model, which are told the same.
type both struct {
	l *lock.Locks
	m model
}

// made: a Locks and its model, new.
func made(t *testing.T, levels []int, mutexes int) *both {
	t.Helper()
	l, err := lock.New(levels, mutexes)
	if l == nil || err != api.OK {
		t.Fatalf("New(%d, %d): %v, %s", levels, mutexes, l, errors[err])
	}
	return &both{l, model{own: slices.Clone(levels), mutexes: mutexes}}
}

// tell: fails, unless both answer the same to the call.
func (b *both) tell(t *testing.T, c call) {
	t.Helper()
	has, waits := b.m.has, b.m.waits
	if got, want := c.on(b.l), c.onModel(&b.m); got != want {
		t.Fatalf("%s: %s, not %s, where they have %d and wait for %d, of levels %d", c.text(), got, want, has, waits, b.m.own)
	}
}

// do: fails, unless both answer the same to the calls, and show the same behind each; and what follows from the chapter holds then.
func (b *both) do(t *testing.T, calls ...call) {
	t.Helper()
	for _, c := range calls {
		b.tell(t, c)
		shows(t, b.l, b.m.picture())
		follows(t, b.l, b.m.own)
	}
}

// same: fails, unless the calls are answered so, and all stands as it stood.
func (b *both) same(t *testing.T, want string, calls ...call) {
	t.Helper()
	before := b.m.picture()
	for _, c := range calls {
		answers(t, b.l, c, want)
		shows(t, b.l, before)
	}
}

// cleared: each mutex is given back by who has it, till nobody has one; and both show the same each time.
func (b *both) cleared(t *testing.T) {
	t.Helper()
	for len(b.m.has) > 0 {
		p := b.m.has[len(b.m.has)/2]
		b.do(t, un(p.task, p.mutex))
	}
	shows(t, b.l, free(b.m.own, b.m.mutexes))
}

// free: the picture of so many mutexes that nobody has.
func free(levels []int, mutexes int) picture {
	return picture{same(mutexes, 255), make([][]int, mutexes), levels}
}

// follows: fails, unless what P17.6 names holds of what a Locks tells.
func follows(t *testing.T, l *lock.Locks, own []int) {
	t.Helper()
	levels := l.Levels()
	for task := range own {
		steps := 0
		for at := task; l.Waits(at) >= 0; at = l.Owner(l.Waits(at)) {
			if steps++; steps > len(own) {
				t.Fatalf("from task %d on there is a circle", task)
			}
		}
		waitedFor := false
		for _, mutex := range l.Held(task) {
			for _, waiter := range l.Waiting(mutex) {
				waitedFor = true
				if levels[task] > levels[waiter] {
					t.Fatalf("task %d has level %d, and task %d, which waits for it, has %d", task, levels[task], waiter, levels[waiter])
				}
			}
		}
		if !waitedFor && levels[task] != own[task] {
			t.Fatalf("task %d has level %d, though nobody waits for it and its own is %d", task, levels[task], own[task])
		}
	}
}

// run is what some tests begin with.
type run struct {
	levels  []int
	mutexes int
	calls   []call
}

// made: a Locks and its model, to which the calls were told.
func (r run) made(t *testing.T) *both {
	t.Helper()
	b := made(t, r.levels, r.mutexes)
	for _, c := range r.calls {
		b.tell(t, c)
	}
	shows(t, b.l, b.m.picture())
	return b
}

// chain: the calls by which the task k has the mutex k, and each but the task 0 waits for the one of the task below it; the waits come in an order: the first one is that of the task first + 1, and each next one lies so many further on. (A step that shares no divisor with n - 1 takes each once.)
func chain(n, first, step int) []call {
	var calls []call
	for k := range min(n, 32) {
		calls = append(calls, lk(k, k))
	}
	for k := range n - 1 {
		at := (first + k*step) % (n - 1)
		calls = append(calls, lk(at+1, at))
	}
	return calls
}

// crowd: the calls by which the first of the tasks has the mutex 0, and the others wait for it in order.
func crowd(tasks []int) []call {
	var calls []call
	for _, task := range tasks {
		calls = append(calls, lk(task, 0))
	}
	return calls
}

// everyone: all 64 tasks, from one on in steps of so many.
func everyone(first, step int) []int {
	return by(64, func(k int) int { return (first + k*step) % 64 })
}

// hoard: the calls by which the task 0 has all 32 mutexes, and one or two tasks wait for each of them.
func hoard() []call {
	var calls []call
	for mutex := range 32 {
		calls = append(calls, lk(0, mutex*7%32))
	}
	for task := 1; task < 63; task++ {
		calls = append(calls, lk(task, task/2))
	}
	return calls
}

// someRuns: none, one, and many tasks and mutexes, free, had and waited for, in rows, in chains and in trees.
func someRuns() []run {
	mixed := by(64, func(task int) int { return task * 11 % 32 })
	falling := by(64, func(task int) int { return 31 - task/2 })
	return []run{
		{nil, 0, nil}, {nil, 3, nil}, {[]int{4}, 0, nil}, {[]int{4}, 1, nil}, {mixed, 32, nil},
		{[]int{0}, 1, []call{lk(0, 0)}},
		{[]int{31, 0}, 1, []call{lk(0, 0), lk(1, 0)}},
		{[]int{0, 31}, 1, []call{lk(0, 0), lk(1, 0)}},
		{[]int{5, 3, 1}, 2, []call{lk(0, 0), lk(1, 1), lk(1, 0), lk(2, 1)}},
		{[]int{5, 3, 1}, 3, []call{lk(0, 0), lk(0, 2), lk(1, 1), lk(2, 1), lk(1, 2)}},
		{mixed, 1, crowd(everyone(0, 1))}, {mixed, 1, crowd(everyone(63, 63))}, {same(64, 9), 2, crowd(everyone(7, 37))},
		{mixed, 32, hoard()}, {falling, 32, hoard()},
		{mixed, 32, chain(33, 0, 1)}, {falling, 32, chain(33, 31, 31)}, {same(64, 31), 32, chain(33, 5, 7)},
		{falling, 32, append(chain(20, 3, 5), lk(50, 0), lk(60, 7), lk(61, 7), lk(62, 19), lk(63, 10))},
	}
}

func TestNumbersOfTheDocument(t *testing.T) {
	if api.MaxTasks != 64 || api.Levels != 32 || api.MaxObjects != 32 || api.None != 255 {
		t.Fatal("the limits aren't those of the document")
	}
	if api.OK != 0 || api.ErrArg != 1 || api.ErrOwner != 10 || api.ErrCycle != 11 || api.ErrNone != 15 || api.ErrNil != 16 {
		t.Fatal("the errors aren't those of the document")
	}
}

func TestExamplesOfTheChapter(t *testing.T) {
	b := made(t, []int{5, 3, 1}, 2)
	answers(t, b.l, lk(0, 0), "true OK")
	answers(t, b.l, lk(1, 1), "true OK")
	answers(t, b.l, lk(1, 0), "false OK")
	answers(t, b.l, lk(2, 1), "false OK")
	shows(t, b.l, picture{[]int{0, 1}, [][]int{{1}, {2}}, []int{1, 1, 1}})
	answers(t, b.l, lk(0, 1), "false ErrCycle")
	shows(t, b.l, picture{[]int{0, 1}, [][]int{{1}, {2}}, []int{1, 1, 1}})
	answers(t, b.l, un(0, 0), "1 OK")
	shows(t, b.l, picture{[]int{1, 1}, [][]int{nil, {2}}, []int{5, 1, 1}})
}

// TestFirstExamplesOfTheWhole: what DOC.md's system A does with its mutex.
func TestFirstExamplesOfTheWhole(t *testing.T) {
	b := made(t, []int{5, 1}, 1)
	answers(t, b.l, lk(0, 0), "true OK")
	shows(t, b.l, picture{[]int{0}, [][]int{nil}, []int{5, 1}})
	answers(t, b.l, lk(1, 0), "false OK")
	shows(t, b.l, picture{[]int{0}, [][]int{{1}}, []int{1, 1}})
	answers(t, b.l, un(0, 0), "1 OK")
	shows(t, b.l, picture{[]int{1}, [][]int{nil}, []int{5, 1}})
	answers(t, b.l, un(1, 0), "255 OK")
	shows(t, b.l, free([]int{5, 1}, 1))
}

// P17.1

// isNew: fails, unless New answers so; and where it is OK all are free.
func isNew(t *testing.T, levels []int, mutexes int, want api.Errno) {
	t.Helper()
	l, err := lock.New(levels, mutexes)
	if err != want || (l == nil) != (want != api.OK) {
		t.Fatalf("New(%d, %d): %v, %s, not %s", levels, mutexes, l, errors[err], errors[want])
	}
	if want == api.OK {
		shows(t, l, free(levels, mutexes))
	}
}

// TestNewOfSomeNumbers: how many tasks and mutexes there may be, each with each.
func TestNewOfSomeNumbers(t *testing.T) {
	for tasks := range 70 {
		for mutexes := -3; mutexes < 40; mutexes++ {
			want := api.OK
			if tasks > 64 || mutexes < 0 || mutexes > 32 {
				want = api.ErrArg
			}
			isNew(t, by(tasks, func(task int) int { return (task + mutexes + 3) % 32 }), mutexes, want)
		}
		for _, mutexes := range noNumbers {
			isNew(t, same(tasks, 3), mutexes, api.ErrArg)
		}
	}
	for _, tasks := range []int{128, 255, 256, 257, 320, 1 << 16, 1<<16 + 1} {
		isNew(t, same(tasks, 0), 1, api.ErrArg)
	}
}

// TestNewOfSomeLevels: each level that there is, and each of the others, at each place.
func TestNewOfSomeLevels(t *testing.T) {
	for _, tasks := range []int{1, 2, 3, 17, 63, 64} {
		for at := range tasks {
			for level := range 32 {
				levels := same(tasks, 31-level)
				levels[at] = level
				isNew(t, levels, 2, api.OK)
			}
			for _, level := range append([]int{32, 33, 63}, noNumbers...) {
				levels := same(tasks, 7)
				levels[at] = level
				isNew(t, levels, 2, api.ErrArg)
				isNew(t, levels, 0, api.ErrArg)
			}
		}
	}
	isNew(t, append(same(64, 0), -1), 0, api.ErrArg)
	isNew(t, []int{-1, 32}, 33, api.ErrArg)
}

// TestNewWithoutTasksOrMutexes: there is nothing to lock.
func TestNewWithoutTasksOrMutexes(t *testing.T) {
	for _, levels := range [][]int{nil, {}} {
		for _, mutexes := range []int{0, 1, 32} {
			b := made(t, levels, mutexes)
			b.same(t, "false ErrArg", lk(0, 0), lk(0, 1), lk(255, 0))
			b.same(t, "255 ErrArg", un(0, 0), un(0, 1), un(255, 0))
		}
	}
	b := made(t, same(64, 3), 0)
	for task := range 64 {
		b.same(t, "false ErrNone", lk(task, 0), lk(task, 1), lk(task, -1))
		b.same(t, "255 ErrNone", un(task, 0), un(task, 1), un(task, -1))
	}
}

// TestListOfTheCaller: it stays as it is, spare room and all; and what the caller does with it later alters nothing.
func TestListOfTheCaller(t *testing.T) {
	room := []int{9, 4, 7, 2, 91, 92}
	want := slices.Clone(room)
	b := made(t, room[:4], 2)
	b.do(t, lk(0, 0), lk(1, 0), lk(1, 1), lk(2, 1), lk(2, 0), lk(3, 0), un(0, 0))
	if !slices.Equal(room, want) {
		t.Fatalf("the list is %d now", room)
	}
	b = made(t, room[:4], 2)
	for k := range room {
		room[k] = 31 - 5*k
	}
	shows(t, b.l, free(want[:4], 2))
	b.do(t, lk(0, 0), lk(1, 1), lk(1, 0), lk(2, 1), lk(3, 1), lk(3, 1))
	for k := range room {
		room[k] = -1
	}
	b.do(t, un(1, 1), un(0, 0))
	b.cleared(t)
}

// P17.2

// TestLockOfAFreeMutex: each by each task, whether it has others or not; and another one is as it was.
func TestLockOfAFreeMutex(t *testing.T) {
	levels := by(64, func(task int) int { return task / 2 })
	for task := range 64 {
		b := made(t, levels, 32)
		for k := range 32 {
			mutex := (k*5 + task) % 32
			want := free(levels, 32)
			want.owners = by(32, b.m.owner)
			want.owners[mutex] = task
			answers(t, b.l, lk(task, mutex), "true OK")
			b.m.lock(task, mutex)
			shows(t, b.l, want)
		}
	}
}

// TestLockOfAnothersMutex: behind those who wait already, whatever the levels.
func TestLockOfAnothersMutex(t *testing.T) {
	for _, order := range [][]int{{0, 1}, {1, 0}, {5, 0, 63}, {63, 62, 1, 2}, everyone(0, 1), everyone(63, 63), everyone(20, 27)} {
		for _, levels := range [][]int{same(64, 0), same(64, 31), by(64, func(task int) int { return task / 2 }), by(64, func(task int) int { return 31 - task/2 })} {
			for _, mutex := range []int{0, 1, 31} {
				b := made(t, levels, 32)
				answers(t, b.l, lk(order[0], mutex), "true OK")
				want := free(slices.Clone(levels), 32)
				want.owners[mutex] = order[0]
				for k, task := range order[1:] {
					answers(t, b.l, lk(task, mutex), "false OK")
					want.waiting[mutex] = order[1 : k+2]
					want.levels[order[0]] = min(want.levels[order[0]], levels[task])
					shows(t, b.l, want)
				}
			}
		}
	}
}

// eachTask: of each run each task that it has, with a Locks on which the run was made.
func eachTask(t *testing.T, test func(b *both, task int)) {
	t.Helper()
	for _, r := range someRuns() {
		b := r.made(t)
		for task := range r.levels {
			test(b, task)
		}
		b.cleared(t)
	}
}

// TestLockOfOnesOwn: ErrOwner, whether somebody waits for it or not, and all is as it was.
func TestLockOfOnesOwn(t *testing.T) {
	eachTask(t, func(b *both, task int) {
		if b.m.waitsFor(task) < 0 {
			for _, mutex := range b.m.held(task) {
				b.same(t, "false ErrOwner", lk(task, mutex), lk(task, mutex))
			}
		}
	})
}

// TestLockByOneThatWaits: ErrArg, whatever the mutex: this one, another one, a free one, its own, one by which a circle would be closed, or none at all.
func TestLockByOneThatWaits(t *testing.T) {
	eachTask(t, func(b *both, task int) {
		if b.m.waitsFor(task) >= 0 {
			for mutex := range 34 {
				b.same(t, "false ErrArg", lk(task, mutex))
			}
			for _, mutex := range noNumbers {
				b.same(t, "false ErrArg", lk(task, mutex))
			}
		}
	})
}

// TestLockOfNoMutex: ErrNone of each task that doesn't wait, also of one that has some.
func TestLockOfNoMutex(t *testing.T) {
	eachTask(t, func(b *both, task int) {
		if b.m.waitsFor(task) < 0 {
			for _, mutex := range append([]int{b.m.mutexes, b.m.mutexes + 1, 32, 33}, noNumbers...) {
				b.same(t, "false ErrNone", lk(task, mutex))
			}
		}
	})
}

// TestLockByNoTask: ErrArg, also where there is no such mutex either.
func TestLockByNoTask(t *testing.T) {
	for _, r := range someRuns() {
		b := r.made(t)
		for _, task := range append([]int{len(r.levels), len(r.levels) + 1}, noNumbers...) {
			if b.m.isTask(task) {
				continue
			}
			for _, mutex := range []int{0, 1, 31, 32, -1, r.mutexes, r.mutexes - 1, math.MinInt, math.MaxInt, task} {
				b.same(t, "false ErrArg", lk(task, mutex))
			}
		}
		b.cleared(t)
	}
}

// TestErrorsInOrder: where several fit it is the one that the chapter names first.
func TestErrorsInOrder(t *testing.T) {
	b := made(t, []int{5, 3, 1}, 3)
	b.do(t, lk(0, 0), lk(1, 1), lk(1, 0), lk(2, 2))
	b.same(t, "false ErrArg", lk(3, 3), lk(-1, -1), lk(1, 3), lk(1, -1), lk(1, 1), lk(1, 0), lk(1, 2))
	b.same(t, "false ErrNone", lk(0, 3), lk(0, -1), lk(2, 3))
	b.same(t, "false ErrOwner", lk(0, 0), lk(2, 2))
	b.same(t, "false ErrCycle", lk(0, 1))
	b.same(t, "255 ErrArg", un(3, 3), un(-1, -1), un(3, 0), un(255, 2))
	b.same(t, "255 ErrNone", un(0, 3), un(0, -1), un(1, 3))
	b.same(t, "255 ErrOwner", un(0, 1), un(0, 2), un(1, 0), un(1, 2), un(2, 0))
}

// TestCircles: of two tasks, of three and of many, the waits in several orders: the last one is refused, and all is as it was; behind a task's mutex that it gave back nothing is closed.
func TestCircles(t *testing.T) {
	levels := by(64, func(task int) int { return task * 7 % 32 })
	for n := 2; n <= 32; n++ {
		for _, calls := range [][]call{chain(n, 0, 1), chain(n, n-2, n-2), chain(n, n/2, 1)} {
			b := run{levels, 32, calls}.made(t)
			for mutex := 1; mutex < n; mutex++ {
				b.same(t, "false ErrCycle", lk(0, mutex))
			}
			b.do(t, un(n-1, n-1), lk(0, n-1))
			b.cleared(t)
		}
	}
}

// TestCirclesFromTheMiddle: a chain is closed by the one that leads to its end, wherever the chain is parted.
func TestCirclesFromTheMiddle(t *testing.T) {
	for parted := range 31 {
		b := made(t, same(32, 4), 32)
		for k := range 32 {
			b.tell(t, lk(k, k))
		}
		for k := range 32 {
			if k != parted {
				b.tell(t, lk(k, (k+1)%32))
			}
		}
		for mutex := range 32 {
			if mutex != parted {
				b.same(t, "false ErrCycle", lk(parted, mutex))
			}
		}
		b.same(t, "false ErrOwner", lk(parted, parted))
		b.cleared(t)
	}
}

// TestLongChainsThatCloseNone: those who have nothing, and those whose chain is another one, may wait for whichever mutex.
func TestLongChainsThatCloseNone(t *testing.T) {
	levels := by(64, func(task int) int { return task * 7 % 32 })
	for mutex := range 32 {
		b := run{levels, 32, chain(33, mutex%16, 1+2*(mutex%4))}.made(t)
		for task := 33; task < 64; task++ {
			answers(t, b.l, lk(task, mutex), "false OK")
			b.m.lock(task, mutex)
		}
		shows(t, b.l, b.m.picture())
		b.cleared(t)
	}
}

// TestTwoChainsThatAreJoined: the front one of a chain waits for any mutex of the other one; a circle by both of them is refused.
func TestTwoChainsThatAreJoined(t *testing.T) {
	for mutex := 16; mutex < 32; mutex++ {
		b := made(t, by(32, func(task int) int { return 31 - task }), 32)
		for k := range 32 {
			b.tell(t, lk(k, k))
		}
		for k := range 32 {
			if k%16 > 0 {
				b.tell(t, lk(k, k-1))
			}
		}
		answers(t, b.l, lk(0, mutex), "false OK")
		b.m.lock(0, mutex)
		for k := range 32 {
			if k != 16 {
				b.same(t, "false ErrCycle", lk(16, k))
				continue
			}
			b.same(t, "false ErrOwner", lk(16, k))
		}
		b.cleared(t)
	}
}

// P17.3

// TestUnlockNobodyWaits: None, and nobody has it; it can be locked again, by whoever.
func TestUnlockNobodyWaits(t *testing.T) {
	for task := range 64 {
		for mutex := range 32 {
			b := made(t, everyone(0, 1)[:32], 32)
			if task >= 32 {
				b = made(t, same(64, task/2), 32)
			}
			answers(t, b.l, lk(task, mutex), "true OK")
			answers(t, b.l, un(task, mutex), "255 OK")
			shows(t, b.l, free(b.m.own, 32))
			answers(t, b.l, un(task, mutex), "255 ErrOwner")
			answers(t, b.l, lk(0, mutex), "true OK")
		}
	}
}

// TestTurns: who has the mutex in turn, by levels of which none is inherited.
func TestTurns(t *testing.T) {
	for _, c := range []struct{ levels, came, turns []int }{
		{[]int{0, 0}, []int{0, 1}, []int{1}},
		{[]int{0, 31}, []int{0, 1}, []int{1}},
		{[]int{31, 0}, []int{0, 1}, []int{1}},
		{[]int{9, 2, 1}, []int{0, 1, 2}, []int{2, 1}},
		{[]int{9, 1, 2}, []int{0, 1, 2}, []int{1, 2}},
		{[]int{9, 2, 2}, []int{0, 2, 1}, []int{2, 1}},
		{[]int{2, 9, 2}, []int{1, 0, 2}, []int{0, 2}},
		{[]int{0, 31, 30, 31}, []int{0, 1, 2, 3}, []int{2, 1, 3}},
		{[]int{0, 31, 30, 31}, []int{3, 1, 2, 0}, []int{0, 2, 1}},
		{[]int{4, 4, 3, 3, 5, 3}, []int{4, 1, 5, 0, 2, 3}, []int{5, 2, 3, 1, 0}},
	} {
		b := made(t, c.levels, 1)
		b.do(t, crowd(c.came)...)
		has := c.came[0]
		for _, next := range append(c.turns, 255) {
			answers(t, b.l, un(has, 0), fmt.Sprint(next, " OK"))
			b.m.unlock(has, 0)
			shows(t, b.l, b.m.picture())
			has = next
		}
	}
}

// TestTurnsOfAll: 63 wait, in several orders: of one level they come as they came, of several the more urgent ones first.
func TestTurnsOfAll(t *testing.T) {
	for _, order := range [][]int{everyone(0, 1), everyone(63, 63), everyone(9, 29)} {
		for _, levels := range [][]int{same(64, 0), same(64, 31), by(64, func(task int) int { return task % 3 }), by(64, func(task int) int { return 31 - task/2 })} {
			b := run{levels, 1, crowd(order)}.made(t)
			turns := slices.Clone(order[1:])
			slices.SortStableFunc(turns, func(a, b int) int { return levels[a] - levels[b] })
			has := order[0]
			for _, next := range turns {
				answers(t, b.l, un(has, 0), fmt.Sprint(next, " OK"))
				b.m.unlock(has, 0)
				shows(t, b.l, b.m.picture())
				b.same(t, "255 ErrOwner", un(has, 0))
				has = next
			}
			answers(t, b.l, un(has, 0), "255 OK")
			shows(t, b.l, free(levels, 1))
		}
	}
}

// TestTurnByAnInheritedLevel: one of a level that is worse by itself is ahead, as one waits for it that is the most urgent of all; and where two are as urgent, the one that came first.
func TestTurnByAnInheritedLevel(t *testing.T) {
	b := made(t, []int{20, 9, 5, 1}, 2)
	b.do(t, lk(0, 0), lk(1, 1), lk(2, 0), lk(1, 0), lk(3, 1))
	shows(t, b.l, picture{[]int{0, 1}, [][]int{{2, 1}, {3}}, []int{1, 1, 5, 1}})
	answers(t, b.l, un(0, 0), "1 OK")
	shows(t, b.l, picture{[]int{1, 1}, [][]int{{2}, {3}}, []int{20, 1, 5, 1}})

	b = made(t, []int{20, 9, 1, 1}, 2)
	b.do(t, lk(0, 0), lk(1, 1), lk(2, 0), lk(1, 0), lk(3, 1))
	answers(t, b.l, un(0, 0), "2 OK")
	shows(t, b.l, picture{[]int{2, 1}, [][]int{{1}, {3}}, []int{20, 1, 1, 1}})

	b = made(t, []int{20, 9, 1, 1}, 2)
	b.do(t, lk(0, 0), lk(1, 1), lk(1, 0), lk(2, 0), lk(3, 1))
	answers(t, b.l, un(0, 0), "1 OK")
	shows(t, b.l, picture{[]int{1, 1}, [][]int{{2}, {3}}, []int{20, 1, 1, 1}})
}

// TestTurnByALevelFromFarAway: it is inherited along a chain of many tasks, of which one waits beside others.
func TestTurnByALevelFromFarAway(t *testing.T) {
	for n := 2; n <= 32; n++ {
		levels := append(same(n, 30), 0, 31, 1, 1)
		b := run{levels, 32, chain(n, 0, 1)}.made(t)
		b.do(t, lk(n+2, 0), lk(n+3, 0))
		b.do(t, lk(n, n-1))
		answers(t, b.l, un(0, 0), "1 OK")
		b.m.unlock(0, 0)
		shows(t, b.l, b.m.picture())
		b.cleared(t)
	}
}

// TestUnlockErrors: by no task, of no mutex, of what it hasn't, and all is as it was.
func TestUnlockErrors(t *testing.T) {
	for _, r := range someRuns() {
		b := r.made(t)
		for _, task := range append([]int{len(r.levels), len(r.levels) + 1}, noNumbers...) {
			if !b.m.isTask(task) {
				for _, mutex := range []int{0, 1, 31, 32, -1, r.mutexes, r.mutexes - 1, math.MinInt, math.MaxInt, task} {
					b.same(t, "255 ErrArg", un(task, mutex))
				}
			}
		}
		for task := range r.levels {
			for _, mutex := range append([]int{r.mutexes, r.mutexes + 1, 32, 33}, noNumbers...) {
				b.same(t, "255 ErrNone", un(task, mutex))
			}
			for mutex := range r.mutexes {
				if b.m.owner(mutex) != task {
					b.same(t, "255 ErrOwner", un(task, mutex))
				}
			}
		}
		b.cleared(t)
	}
}

// TestUnlockByOneThatWaits: for another mutex than the one that it gives back: it waits on, and is no more urgent than those who still wait for it.
func TestUnlockByOneThatWaits(t *testing.T) {
	b := made(t, []int{9, 8, 7, 2, 6}, 4)
	b.do(t, lk(0, 0), lk(1, 1), lk(1, 2), lk(1, 3), lk(1, 0), lk(2, 1), lk(3, 2), lk(4, 2))
	shows(t, b.l, picture{[]int{0, 1, 1, 1}, [][]int{{1}, {2}, {3, 4}, nil}, []int{2, 2, 7, 2, 6}})
	answers(t, b.l, un(1, 3), "255 OK")
	shows(t, b.l, picture{[]int{0, 1, 1, 255}, [][]int{{1}, {2}, {3, 4}, nil}, []int{2, 2, 7, 2, 6}})
	answers(t, b.l, un(1, 2), "3 OK")
	shows(t, b.l, picture{[]int{0, 1, 3, 255}, [][]int{{1}, {2}, {4}, nil}, []int{7, 7, 7, 2, 6}})
	answers(t, b.l, un(1, 1), "2 OK")
	shows(t, b.l, picture{[]int{0, 2, 3, 255}, [][]int{{1}, nil, {4}, nil}, []int{8, 8, 7, 2, 6}})
	answers(t, b.l, un(1, 0), "255 ErrOwner")
	answers(t, b.l, lk(1, 3), "false ErrArg")
	answers(t, b.l, un(0, 0), "1 OK")
	shows(t, b.l, picture{[]int{1, 2, 3, 255}, [][]int{nil, nil, {4}, nil}, []int{9, 8, 7, 2, 6}})
}

// TestWaitsNoMore: who was given the mutex may lock others, and wait again, also for the one that it gives back.
func TestWaitsNoMore(t *testing.T) {
	b := made(t, []int{9, 8, 7}, 2)
	b.do(t, lk(0, 0), lk(1, 0), lk(2, 0), un(0, 0))
	answers(t, b.l, lk(2, 1), "true OK")
	shows(t, b.l, picture{[]int{2, 2}, [][]int{{1}, nil}, []int{9, 8, 7}})
	answers(t, b.l, un(2, 0), "1 OK")
	answers(t, b.l, lk(2, 0), "false OK")
	shows(t, b.l, picture{[]int{1, 2}, [][]int{{2}, nil}, []int{9, 7, 7}})
	answers(t, b.l, lk(1, 1), "false ErrCycle")
	answers(t, b.l, un(1, 0), "2 OK")
	answers(t, b.l, lk(1, 1), "false OK")
	shows(t, b.l, picture{[]int{2, 2}, [][]int{nil, {1}}, []int{9, 8, 7}})
}

// P17.4

// TestHeldRises: in whichever order the mutexes were locked, and some given back.
func TestHeldRises(t *testing.T) {
	for step := 1; step < 32; step += 2 {
		b := made(t, []int{3, 2}, 32)
		var want []int
		for k := range 32 {
			mutex := (k*step + 5) % 32
			answers(t, b.l, lk(1, mutex), "true OK")
			want = append(want, mutex)
			slices.Sort(want)
			if got := b.l.Held(1); !slices.Equal(got, want) {
				t.Fatalf("Held: %d, not %d", got, want)
			}
			if k%3 == 2 {
				answers(t, b.l, un(1, want[k/3]), "255 OK")
				want = slices.Delete(want, k/3, k/3+1)
			}
		}
		if got := b.l.Held(1); !slices.Equal(got, want) || len(b.l.Held(0)) > 0 {
			t.Fatalf("Held: %d, not %d", got, want)
		}
	}
}

// TestLevelsAlongAChain: in whichever order it came to be, each task is as urgent as the most urgent one behind it.
func TestLevelsAlongAChain(t *testing.T) {
	for _, n := range []int{2, 3, 6, 14, 33} {
		for _, own := range [][]int{
			by(n, func(task int) int { return 31 - task*31/n }), by(n, func(task int) int { return task * 31 / n }),
			same(n, 6), by(n, func(task int) int { return task * 13 % 32 }), append(same(n-1, 31), 0), append([]int{0}, same(n-1, 31)...),
			by(n, func(task int) int { return 20 - 5*(task%3) }),
		} {
			want := slices.Clone(own)
			for task := n - 2; task >= 0; task-- {
				want[task] = min(want[task], want[task+1])
			}
			for first := range n - 1 {
				for _, step := range []int{1, max(1, n-2)} {
					b := run{own, 32, chain(n, first, step)}.made(t)
					if got := b.l.Levels(); !slices.Equal(got, want) {
						t.Fatalf("Levels: %d, not %d, of %d", got, want, own)
					}
				}
			}
		}
	}
}

// TestLevelOfAnOwnerOfSeveral: it is the least of all who wait for whichever of them; with each one that it gives back it is as urgent as those who still wait.
func TestLevelOfAnOwnerOfSeveral(t *testing.T) {
	own := []int{31, 12, 5, 9, 5, 20, 2}
	b := made(t, own, 6)
	for mutex := range 6 {
		b.do(t, lk(0, mutex))
	}
	for _, c := range []struct{ task, mutex, level int }{{1, 4, 12}, {5, 0, 12}, {3, 1, 9}, {2, 5, 5}, {4, 2, 5}, {6, 1, 2}} {
		answers(t, b.l, lk(c.task, c.mutex), "false OK")
		b.m.lock(c.task, c.mutex)
		if got := b.l.Levels()[0]; got != c.level {
			t.Fatalf("behind %d the level is %d, not %d", c, got, c.level)
		}
	}
	for _, c := range []struct{ mutex, next, level int }{{3, 255, 2}, {0, 5, 2}, {1, 6, 5}, {5, 2, 5}, {2, 4, 12}, {4, 1, 31}} {
		answers(t, b.l, un(0, c.mutex), fmt.Sprint(c.next, " OK"))
		b.m.unlock(0, c.mutex)
		if got := b.l.Levels()[0]; got != c.level {
			t.Fatalf("behind %d the level is %d, not %d", c, got, c.level)
		}
		shows(t, b.l, b.m.picture())
	}
	if got := b.l.Levels(); !slices.Equal(got, []int{31, 12, 5, 9, 5, 20, 2}) {
		t.Fatalf("Levels: %d", got)
	}
}

// TestLevelsGoAgain: a level that came along a chain goes along all of it, once the most urgent one has what it waited for.
func TestLevelsGoAgain(t *testing.T) {
	for n := 3; n <= 33; n++ {
		own := append(by(n-1, func(task int) int { return 31 - task*30/n }), 0)
		b := run{own, 32, chain(n, 0, 1)}.made(t)
		if got := b.l.Levels(); !slices.Equal(got, same(n, 0)) {
			t.Fatalf("Levels: %d, not all 0", got)
		}
		answers(t, b.l, un(n-2, n-2), fmt.Sprint(n-1, " OK"))
		b.m.unlock(n-2, n-2)
		want := append(same(n-1, own[n-2]), 0)
		if got := b.l.Levels(); !slices.Equal(got, want) {
			t.Fatalf("Levels: %d, not %d", got, want)
		}
		b.cleared(t)
	}
}

// TestLevelIsHandedOnWithTheMutex: those who wait on make the next owner as urgent as they are, and no longer the one ahead.
func TestLevelIsHandedOnWithTheMutex(t *testing.T) {
	b := made(t, []int{30, 20, 10, 9, 5}, 3)
	b.do(t, lk(0, 0), lk(1, 1), lk(1, 0), lk(2, 0), lk(3, 1))
	shows(t, b.l, picture{[]int{0, 1, 255}, [][]int{{1, 2}, {3}, nil}, []int{9, 9, 10, 9, 5}})
	answers(t, b.l, un(0, 0), "1 OK")
	shows(t, b.l, picture{[]int{1, 1, 255}, [][]int{{2}, {3}, nil}, []int{30, 9, 10, 9, 5}})
	answers(t, b.l, un(1, 1), "3 OK")
	shows(t, b.l, picture{[]int{1, 3, 255}, [][]int{{2}, nil, nil}, []int{30, 10, 10, 9, 5}})
	answers(t, b.l, lk(4, 0), "false OK")
	shows(t, b.l, picture{[]int{1, 3, 255}, [][]int{{2, 4}, nil, nil}, []int{30, 5, 10, 9, 5}})
	answers(t, b.l, un(1, 0), "4 OK")
	shows(t, b.l, picture{[]int{4, 3, 255}, [][]int{{2}, nil, nil}, []int{30, 20, 10, 9, 5}})
}

// TestAnswersAreNewMemory: what the caller does with a list, spare room and all, changes neither what stands nor another list.
func TestAnswersAreNewMemory(t *testing.T) {
	for _, r := range someRuns() {
		b := r.made(t)
		spoils(t, b.l.Levels)
		for mutex := range r.mutexes {
			spoils(t, func() []int { return b.l.Waiting(mutex) })
		}
		for task := range r.levels {
			spoils(t, func() []int { return b.l.Held(task) })
		}
		shows(t, b.l, b.m.picture())
		b.cleared(t)
	}
}

// spoils: fails, unless a list is answered anew, whatever became of the one ahead of it.
func spoils(t *testing.T, ask func() []int) {
	t.Helper()
	list, other := ask(), ask()
	want := slices.Clone(other)
	for k := range list[:cap(list)] {
		list[:cap(list)][k] = 70 + k
	}
	_ = append(list, 80, 81)
	if again := ask(); !slices.Equal(other, want) || !slices.Equal(again, want) {
		t.Fatalf("other lists are %d and %d, not %d", other, again, want)
	}
}

// TestAnswersStayAsTheyWere: what is told later changes no list that was answered.
func TestAnswersStayAsTheyWere(t *testing.T) {
	for _, r := range someRuns() {
		b := r.made(t)
		var lists [][]int
		for task := range r.levels {
			lists = append(lists, b.l.Held(task))
		}
		for mutex := range r.mutexes {
			lists = append(lists, b.l.Waiting(mutex))
		}
		lists = append(lists, b.l.Levels())
		var want [][]int
		for _, list := range lists {
			want = append(want, slices.Clone(list))
		}
		b.cleared(t)
		for _, c := range r.calls {
			b.tell(t, lk(c.task, r.mutexes-1-c.mutex))
		}
		b.cleared(t)
		for k, list := range lists {
			if !slices.Equal(list, want[k]) {
				t.Fatalf("a list is %d now, not %d", list, want[k])
			}
		}
	}
}

// P17.5

func TestNil(t *testing.T) {
	var l *lock.Locks
	numbers := append([]int{0, 1, 5, 31, 32, 63}, noNumbers...)
	for range 2 {
		for _, task := range numbers {
			for _, mutex := range numbers {
				answers(t, l, lk(task, mutex), "false ErrNil")
				answers(t, l, un(task, mutex), "255 ErrNil")
			}
			if got := l.Waits(task); got != -1 {
				t.Errorf("Waits(%d): %d", task, got)
			}
			if got := l.Held(task); len(got) > 0 {
				t.Errorf("Held(%d): %d", task, got)
			}
			if got := l.Owner(task); got != 255 {
				t.Errorf("Owner(%d): %d", task, got)
			}
			if got := l.Waiting(task); len(got) > 0 {
				t.Errorf("Waiting(%d): %d", task, got)
			}
		}
		if got := l.Levels(); len(got) > 0 {
			t.Errorf("Levels: %d", got)
		}
	}
}

// TestTwoLocks: of one list of levels: what the one is told, the other one isn't.
func TestTwoLocks(t *testing.T) {
	levels := by(10, func(task int) int { return 31 - 3*task })
	b, c := made(t, levels, 5), made(t, levels, 5)
	random := rand.New(rand.NewSource(4))
	for range 2000 {
		d := b
		if random.Intn(2) == 0 {
			d = c
		}
		d.tell(t, d.m.anyCall(random))
		shows(t, b.l, b.m.picture())
		shows(t, c.l, c.m.picture())
	}
	b.cleared(t)
	shows(t, c.l, c.m.picture())
	c.cleared(t)
}

// P17.6, and all of it against the chapter's words

// TestAskingChangesNothing: however often, and whatever is asked.
func TestAskingChangesNothing(t *testing.T) {
	for _, r := range someRuns() {
		b := r.made(t)
		for range 3 {
			for k := -2; k < 70; k++ {
				b.l.Levels()
				b.l.Held(k)
				b.l.Waits(k)
				b.l.Waiting(k)
				b.l.Owner(k)
			}
			follows(t, b.l, r.levels)
		}
		shows(t, b.l, b.m.picture())
		b.cleared(t)
	}
}

// allCalls: each of each task and mutex, and of so many beyond them, below and above.
func allCalls(tasks, mutexes, beyond int) []call {
	var calls []call
	for task := -beyond; task < tasks+beyond; task++ {
		for mutex := -beyond; mutex < mutexes+beyond; mutex++ {
			calls = append(calls, lk(task, mutex), un(task, mutex))
		}
	}
	return calls
}

// TestEachState: every state that few tasks come to with few mutexes, and from it each call. So many states there are by all ways to give the mutexes owners, and the tasks one to wait for, without a circle, in each order in which they could have come.
func TestEachState(t *testing.T) {
	for _, c := range []struct {
		levels  []int
		mutexes int
		states  int
	}{
		{[]int{7}, 2, 4}, {[]int{7, 2}, 2, 21}, {[]int{2, 7}, 3, 81},
		{[]int{5, 3, 1}, 2, 130}, {[]int{1, 3, 5}, 2, 130}, {[]int{4, 4, 4}, 2, 130}, {[]int{31, 0, 31}, 2, 130},
		{[]int{5, 3, 1}, 3, 856}, {[]int{0, 31, 16}, 3, 856}, {[]int{8, 8, 2}, 3, 856},
		{[]int{6, 4, 6, 5}, 2, 913},
	} {
		if got := states(t, c.levels, c.mutexes); got != c.states {
			t.Errorf("by the levels %d and %d mutexes there are %d states, not %d", c.levels, c.mutexes, got, c.states)
		}
	}
}

// states: how many there are; each is looked at, and each call from it.
func states(t *testing.T, levels []int, mutexes int) int {
	t.Helper()
	seen := map[string]bool{}
	runs := [][]call{nil}
	for k := 0; k < len(runs); k++ {
		for _, c := range allCalls(len(levels), mutexes, 1) {
			b := made(t, levels, mutexes)
			for _, ahead := range runs[k] {
				b.tell(t, ahead)
			}
			b.do(t, c)
			key := fmt.Sprint(b.m.picture())
			if !seen[key] {
				seen[key] = true
				runs = append(runs, append(slices.Clone(runs[k]), c))
			}
		}
	}
	return len(seen)
}

// TestEachRun: all runs of so many calls.
func TestEachRun(t *testing.T) {
	for _, c := range []struct{ tasks, mutexes, length int }{{1, 1, 6}, {1, 2, 5}, {2, 1, 6}, {2, 2, 4}, {3, 1, 5}} {
		eachRun(t, []int{3, 2, 2}[:c.tasks], c.mutexes, allCalls(c.tasks, c.mutexes, 0), c.length, nil)
	}
}

// eachRun: all runs of so many of these calls, behind those that were told already.
func eachRun(t *testing.T, levels []int, mutexes int, calls []call, length int, told []call) {
	t.Helper()
	b := run{levels, mutexes, told}.made(t)
	follows(t, b.l, levels)
	if len(told) == length {
		return
	}
	for _, c := range calls {
		eachRun(t, levels, mutexes, calls, length, append(slices.Clone(told), c))
	}
}

// anyCall: a call of a task; now and then of none, or of no mutex; and often one that gives something back.
func (m *model) anyCall(random *rand.Rand) call {
	c := call{random.Intn(8) == 0, random.Intn(len(m.own)), random.Intn(m.mutexes)}
	if len(m.has) > 0 && random.Intn(3) == 0 {
		p := m.has[random.Intn(len(m.has))]
		c = un(p.task, p.mutex)
	}
	switch random.Intn(60) {
	case 0:
		c.task = noNumbers[random.Intn(len(noNumbers))]
	case 1:
		c.mutex = noNumbers[random.Intn(len(noNumbers))]
	}
	return c
}

// anyLevels: so many, of a kind.
func anyLevels(random *rand.Rand, n int) []int {
	kinds := random.Intn(3)*15 + 2
	return by(n, func(int) int { return random.Intn(kinds) })
}

// TestMadeRuns: long ones, of few tasks and of all, with few mutexes and with all.
func TestMadeRuns(t *testing.T) {
	for seed, c := range []struct{ tasks, mutexes int }{{1, 1}, {2, 1}, {2, 2}, {3, 2}, {3, 3}, {5, 3}, {5, 8}, {8, 4}, {10, 10}, {20, 6}, {20, 32}, {40, 20}, {64, 1}, {64, 5}, {64, 16}, {64, 32}, {64, 32}} {
		random := rand.New(rand.NewSource(int64(seed)))
		b := made(t, anyLevels(random, c.tasks), c.mutexes)
		for range 1500 {
			b.do(t, b.m.anyCall(random))
		}
		b.cleared(t)
	}
}

// TestRunsThatFillAndEmpty: a long time nothing is given back, then as much as there is, so that chains grow long and circles are refused often.
func TestRunsThatFillAndEmpty(t *testing.T) {
	longest, circles := 0, 0
	for seed := range 6 {
		random := rand.New(rand.NewSource(int64(seed)))
		b := made(t, anyLevels(random, 64), 32)
		for k := range 1800 {
			c := lk(random.Intn(64), random.Intn(32))
			for tries := 0; tries < 20 && b.m.waitsFor(c.task) >= 0; tries++ {
				c.task = random.Intn(64)
			}
			if k/300%2 == 1 && len(b.m.has) > 0 {
				p := b.m.has[random.Intn(len(b.m.has))]
				c = un(p.task, p.mutex)
			}
			if !c.unlock && b.m.waitsFor(c.task) < 0 && b.m.owner(c.mutex) != c.task && b.m.closes(c.task, c.mutex) {
				circles++
			}
			b.do(t, c)
			for task := range 64 {
				longest = max(longest, b.m.length(task))
			}
		}
		b.cleared(t)
	}
	if longest < 10 || circles < 100 {
		t.Errorf("the longest chain has %d steps, and %d circles were refused", longest, circles)
	}
}

// length: how many steps a task's chain has.
func (m *model) length(task int) int {
	if m.waitsFor(task) < 0 {
		return 0
	}
	return 1 + m.length(m.owner(m.waitsFor(task)))
}
