package wait_test

import (
	"cmp"
	"fmt"
	"math"
	"math/rand"
	"slices"
	"testing"

	"taffrail/api"
	"taffrail/wait"
)

// noTasks: numbers that are no task's: those next to the bounds, the least and the greatest, and some that a cut to fewer bits would make a task's.
var noTasks = []int{-1, 64, -2, 65, -63, -64, -65, 127, 128, 255, 256, -256, 1 << 16, 1 << 31, -1 << 31, 1<<31 - 1, 1<<32 - 1, 1 << 32, 1<<32 + 5, -1 << 32, math.MaxInt, math.MaxInt - 1, math.MinInt, math.MinInt + 1, math.MinInt + 5}

// someLevels: what a task's level may be: any number, also those whose difference no int holds, and those that a cut to fewer bits would put in another order.
var someLevels = []int{0, 1, -1, 5, 31, 32, -32, 127, 128, 255, 256, -256, 1<<15 - 1, 1 << 15, 1 << 16, 1<<31 - 1, 1 << 31, -1 << 31, 1<<32 - 1, 1 << 32, -1 << 32, math.MaxInt, math.MaxInt - 1, math.MinInt, math.MinInt + 1}

// errors: those that a call may answer, for what a failing test tells.
var errors = map[api.Errno]string{api.OK: "OK", api.ErrArg: "ErrArg", api.ErrNil: "ErrNil"}

// model is a row by the chapter's words: of each task that waits when it came, by a count of those that came.
type model struct {
	came  [64]int // 0, if the task doesn't wait
	count int
}

func (m *model) has(task int) bool { return task >= 0 && task < 64 && m.came[task] > 0 }

func (m *model) add(task int) api.Errno {
	if task < 0 || task > 63 || m.has(task) {
		return api.ErrArg
	}
	m.count++
	m.came[task] = m.count
	return api.OK
}

func (m *model) remove(task int) bool {
	waits := m.has(task)
	if waits {
		m.came[task] = 0
	}
	return waits
}

// all: who waits, by when it came.
func (m *model) all() []int {
	var all []int
	for task := range m.came {
		if m.has(task) {
			all = append(all, task)
		}
	}
	slices.SortFunc(all, func(a, b int) int { return cmp.Compare(m.came[a], m.came[b]) })
	return all
}

// best: of those with a level, or, if there are none, of those without one, the least level; of several the one that came first.
func (m *model) best(levels []int) (int, bool) {
	turns := m.turns(levels)
	if len(turns) == 0 {
		return 0, false
	}
	return turns[0], true
}

// turns: all that wait, in the order of their turns by these levels.
func (m *model) turns(levels []int) []int {
	var with, without []int
	for _, task := range m.all() {
		if task < len(levels) {
			with = append(with, task)
		} else {
			without = append(without, task)
		}
	}
	slices.SortStableFunc(with, func(a, b int) int { return cmp.Compare(levels[a], levels[b]) })
	return append(with, without...)
}

// modelOf: the model of a row of these, in order.
func modelOf(tasks []int) *model {
	m := &model{}
	for _, task := range tasks {
		m.add(task)
	}
	return m
}

// same: so many levels, all of them this one.
func same(n, level int) []int { return slices.Repeat([]int{level}, n) }

// by: so many levels, each as a rule says.
func by(n int, level func(task int) int) []int {
	levels := make([]int, n)
	for task := range levels {
		levels[task] = level(task)
	}
	return levels
}

// someLists: lists of levels of several lengths, none, too short and too long among them, with levels that are equal, negative, the least and the greatest.
func someLists() [][]int {
	return [][]int{
		nil, {}, {0}, {math.MaxInt}, {math.MinInt, math.MaxInt}, {9, 5, 5}, {3, 3, 2, 2, 1, 1},
		same(63, 4), same(64, 4), same(65, math.MaxInt), same(64, math.MinInt), same(200, -7), same(8, math.MaxInt), same(9, math.MaxInt),
		by(64, func(task int) int { return task }),
		by(64, func(task int) int { return -task }),
		by(40, func(task int) int { return task % 4 }),
		by(100, func(task int) int { return (task*29 + 7) % 5 }),
		by(64, func(task int) int { return someLevels[task*7%len(someLevels)] }),
		by(33, func(task int) int { return someLevels[task*3%len(someLevels)] }),
		append(same(64, 3), same(64, -3)...),
	}
}

// someRows: what most tests begin with: none, one, several in many orders, and all 64.
func someRows() [][]int {
	return [][]int{nil, {0}, {63}, {17}, {0, 63}, {63, 0}, {4, 1, 2}, {1, 2, 3, 4, 5}, {5, 4, 3, 2, 1}, {40, 8, 62, 9, 0, 63, 31, 32, 33, 7}, everyone(0, 1), everyone(63, 63), everyone(11, 37)}
}

// everyone: all tasks, from one on in steps of so many.
func everyone(first, step int) []int {
	return by(64, func(k int) int { return (first + k*step) % 64 })
}

// without: the list but for one place of it.
func without(list []int, at int) []int { return slices.Delete(slices.Clone(list), at, at+1) }

// shows: fails, unless these wait, in this order, whatever the row is asked.
func shows(t *testing.T, r *wait.Row, want ...int) {
	t.Helper()
	if got := r.All(); !slices.Equal(got, want) {
		t.Fatalf("All: %d, not %d", got, want)
	}
	for task := -2; task < 66; task++ {
		if got := r.Has(task); got != slices.Contains(want, task) {
			t.Fatalf("Has(%d): %v, by %d", task, got, want)
		}
	}
	m := modelOf(want)
	for _, levels := range someLists()[:7] {
		task, ok := m.best(levels)
		best(t, r, levels, task, ok)
	}
}

// best: fails, unless Best answers so.
func best(t *testing.T, r *wait.Row, levels []int, task int, ok bool) {
	t.Helper()
	if gotTask, gotOk := r.Best(levels); gotTask != task || gotOk != ok {
		t.Fatalf("Best(%d): %d, %v, not %d, %v, by %d", levels, gotTask, gotOk, task, ok, r.All())
	}
}

// adds: fails, unless Add answers so.
func adds(t *testing.T, r *wait.Row, task int, want api.Errno) {
	t.Helper()
	if err := r.Add(task); err != want {
		t.Errorf("Add(%d): %s, not %s", task, errors[err], errors[want])
	}
}

// removes: fails, unless Remove answers so.
func removes(t *testing.T, r *wait.Row, task int, want bool) {
	t.Helper()
	if got := r.Remove(task); got != want {
		t.Errorf("Remove(%d): %v, not %v", task, got, want)
	}
}

// call is one that may change something: of Add, or of Remove.
type call struct {
	remove bool
	task   int
}

// text: as a failing test tells it.
func (c call) text() string {
	if c.remove {
		return fmt.Sprintf("Remove(%d)", c.task)
	}
	return fmt.Sprintf("Add(%d)", c.task)
}

// both are a row and its model, which are told the same.
type both struct {
	r wait.Row
	m model
}

// tell: a call, to both; what each of them answers.
func (b *both) tell(c call) (got, want string) {
	if c.remove {
		return fmt.Sprint(b.r.Remove(c.task)), fmt.Sprint(b.m.remove(c.task))
	}
	return errors[b.r.Add(c.task)], errors[b.m.add(c.task)]
}

// does: fails, unless both answer the same to the call.
func (b *both) does(t *testing.T, c call) {
	t.Helper()
	before := b.m.all()
	if got, want := b.tell(c); got != want {
		t.Fatalf("%s: %s, not %s, from %d", c.text(), got, want, before)
	}
}

// do: fails, unless both answer the same to the call, and show the same then.
func (b *both) do(t *testing.T, c call) {
	t.Helper()
	b.does(t, c)
	shows(t, &b.r, b.m.all()...)
}

// asked: fails, unless both tell whose turn it is by these levels.
func (b *both) asked(t *testing.T, levels []int) {
	t.Helper()
	task, ok := b.m.best(levels)
	best(t, &b.r, levels, task, ok)
}

// made: a row and its model, to which these were added in this order.
func made(t *testing.T, tasks []int) *both {
	t.Helper()
	b := &both{}
	for _, task := range tasks {
		b.does(t, call{task: task})
	}
	shows(t, &b.r, tasks...)
	return b
}

// cleared: all are removed, from the last task on, and both show the same each time.
func (b *both) cleared(t *testing.T) {
	t.Helper()
	for task := 63; task >= 0; task-- {
		b.do(t, call{remove: true, task: task})
	}
	shows(t, &b.r)
}

func TestNumbersOfTheDocument(t *testing.T) {
	if api.MaxTasks != 64 || api.OK != 0 || api.ErrArg != 1 || api.ErrNil != 16 {
		t.Fatal("the limit or the errors aren't those of the document")
	}
}

func TestExamplesOfTheChapter(t *testing.T) {
	var r wait.Row
	for _, task := range []int{4, 1, 2} {
		adds(t, &r, task, api.OK)
	}
	shows(t, &r, 4, 1, 2)
	best(t, &r, []int{9, 5, 5}, 1, true)
	removes(t, &r, 1, true)
	best(t, &r, []int{9, 5, 5}, 2, true)
	removes(t, &r, 2, true)
	best(t, &r, []int{9, 5, 5}, 4, true)
}

// P16.1

// TestAdd: each task alone, and removed again.
func TestAdd(t *testing.T) {
	var r wait.Row
	for task := range 64 {
		adds(t, &r, task, api.OK)
		shows(t, &r, task)
		removes(t, &r, task, true)
		shows(t, &r)
	}
}

// TestAddBehindTheOthers: whatever the numbers are, those that wait stand as they came.
func TestAddBehindTheOthers(t *testing.T) {
	for _, tasks := range someRows() {
		var r wait.Row
		for k, task := range tasks {
			adds(t, &r, task, api.OK)
			shows(t, &r, tasks[:k+1]...)
		}
	}
}

// TestAddOfNoTask: ErrArg, and the row is as it was.
func TestAddOfNoTask(t *testing.T) {
	for _, tasks := range someRows() {
		b := made(t, tasks)
		for _, task := range noTasks {
			adds(t, &b.r, task, api.ErrArg)
		}
		shows(t, &b.r, tasks...)
		b.cleared(t)
	}
}

// TestAddOfOneThatWaits: ErrArg, wherever it stands, and the row is as it was.
func TestAddOfOneThatWaits(t *testing.T) {
	for _, tasks := range someRows() {
		b := made(t, tasks)
		for _, task := range tasks {
			adds(t, &b.r, task, api.ErrArg)
			adds(t, &b.r, task, api.ErrArg)
			shows(t, &b.r, tasks...)
		}
		b.cleared(t)
	}
}

// TestRemove: each task, from each row, and once more; all others stay as they stand.
func TestRemove(t *testing.T) {
	for _, tasks := range someRows() {
		for task := range 64 {
			b := made(t, tasks)
			at := slices.Index(tasks, task)
			removes(t, &b.r, task, at >= 0)
			want := tasks
			if at >= 0 {
				want = without(tasks, at)
			}
			shows(t, &b.r, want...)
			removes(t, &b.r, task, false)
			shows(t, &b.r, want...)
		}
	}
}

// TestRemoveWrittenOut: of the only one, the first, a middle and the last one.
func TestRemoveWrittenOut(t *testing.T) {
	for _, c := range []struct {
		tasks []int
		task  int
		want  []int
	}{
		{[]int{0}, 0, nil},
		{[]int{63}, 63, nil},
		{[]int{9, 3}, 9, []int{3}},
		{[]int{9, 3}, 3, []int{9}},
		{[]int{9, 3, 63, 0}, 9, []int{3, 63, 0}},
		{[]int{9, 3, 63, 0}, 3, []int{9, 63, 0}},
		{[]int{9, 3, 63, 0}, 63, []int{9, 3, 0}},
		{[]int{9, 3, 63, 0}, 0, []int{9, 3, 63}},
	} {
		b := made(t, c.tasks)
		removes(t, &b.r, c.task, true)
		shows(t, &b.r, c.want...)
	}
}

// TestRemoveOfNoTask: it doesn't wait, and the row is as it was.
func TestRemoveOfNoTask(t *testing.T) {
	for _, tasks := range someRows() {
		b := made(t, tasks)
		for _, task := range noTasks {
			removes(t, &b.r, task, false)
		}
		shows(t, &b.r, tasks...)
		b.cleared(t)
	}
}

// TestRemovedAndAddedAgain: it stands behind the others, wherever it stood.
func TestRemovedAndAddedAgain(t *testing.T) {
	for _, tasks := range someRows() {
		for at, task := range tasks {
			b := made(t, tasks)
			removes(t, &b.r, task, true)
			adds(t, &b.r, task, api.OK)
			shows(t, &b.r, append(without(tasks, at), task)...)
			adds(t, &b.r, task, api.ErrArg)
			shows(t, &b.r, append(without(tasks, at), task)...)
		}
	}
}

// TestRemoveAll: one behind the other, in several orders, and all are added again.
func TestRemoveAll(t *testing.T) {
	for _, tasks := range someRows() {
		for _, order := range [][]int{everyone(0, 1), everyone(63, 63), everyone(9, 29), tasks} {
			b := made(t, tasks)
			for _, task := range order {
				b.do(t, call{remove: true, task: task})
			}
			shows(t, &b.r)
			for _, task := range order {
				b.do(t, call{task: task})
			}
			shows(t, &b.r, order...)
		}
	}
}

// TestAllTurnedRound: the front one goes to the back, till all stand as they stood.
func TestAllTurnedRound(t *testing.T) {
	for _, tasks := range someRows() {
		b := made(t, tasks)
		for _, task := range tasks {
			b.do(t, call{remove: true, task: task})
			b.do(t, call{task: task})
		}
		shows(t, &b.r, tasks...)
	}
}

func TestHas(t *testing.T) {
	for _, tasks := range someRows() {
		b := made(t, tasks)
		for task := range 64 {
			if got := b.r.Has(task); got != slices.Contains(tasks, task) {
				t.Errorf("Has(%d): %v, by %d", task, got, tasks)
			}
		}
		for _, task := range noTasks {
			if b.r.Has(task) {
				t.Errorf("Has(%d), by %d", task, tasks)
			}
		}
		shows(t, &b.r, tasks...)
	}
}

// TestAllIsNewMemory: what the caller does with the list, spare room and all, changes neither the row nor another list.
func TestAllIsNewMemory(t *testing.T) {
	for _, tasks := range someRows() {
		for n := range 3 {
			b := made(t, tasks)
			for task := range n {
				b.do(t, call{remove: true, task: task})
			}
			want := b.m.all()
			list, other := b.r.All(), b.r.All()
			for k := range list[:cap(list)] {
				list[:cap(list)][k] = 64 + k
			}
			_ = append(list, 70, 71, 72)
			if !slices.Equal(other, want) {
				t.Errorf("another list is changed to %d", other)
			}
			shows(t, &b.r, want...)
			for task := range n {
				b.do(t, call{task: task})
			}
			b.cleared(t)
		}
	}
}

// TestAllStaysAsItWas: a list that was answered isn't changed by what the row is told later.
func TestAllStaysAsItWas(t *testing.T) {
	for _, tasks := range someRows() {
		b := made(t, tasks)
		list := b.r.All()
		b.does(t, call{task: 5})
		b.does(t, call{remove: true, task: 63})
		b.does(t, call{remove: true, task: 0})
		b.does(t, call{task: 63})
		b.cleared(t)
		if !slices.Equal(list, tasks) {
			t.Errorf("the list is %d now, not %d", list, tasks)
		}
	}
}

// P16.2

func TestBestOfNone(t *testing.T) {
	emptied := made(t, []int{3, 0, 63})
	emptied.cleared(t)
	for _, levels := range someLists() {
		best(t, new(wait.Row), levels, 0, false)
		best(t, &emptied.r, levels, 0, false)
	}
}

// TestBestOfOne: its turn it is, by whatever levels.
func TestBestOfOne(t *testing.T) {
	for task := range 64 {
		b := made(t, []int{task})
		for _, levels := range someLists() {
			best(t, &b.r, levels, task, true)
		}
		for _, level := range someLevels {
			for n := range 66 {
				best(t, &b.r, same(n, level), task, true)
			}
		}
	}
}

func TestBestWrittenOut(t *testing.T) {
	for _, c := range []struct {
		tasks, levels []int
		want          int
	}{
		{[]int{0, 1, 2}, []int{1, 2, 3}, 0},
		{[]int{0, 1, 2}, []int{3, 2, 1}, 2},
		{[]int{0, 1, 2}, []int{3, 1, 2}, 1},
		{[]int{2, 1, 0}, []int{5, 5, 5}, 2},
		{[]int{2, 1, 0}, []int{5, 5, 6}, 1},
		{[]int{2, 0, 1}, []int{5, 5, 6}, 0},
		{[]int{1, 2}, []int{0, 7, 7}, 1},
		{[]int{2, 1}, []int{0, 7, 8}, 1},
		{[]int{0, 1, 2}, []int{-1, -3, -2}, 1},
		{[]int{0, 1}, []int{math.MaxInt, math.MinInt}, 1},
		{[]int{0, 1}, []int{math.MinInt, math.MaxInt}, 0},
		{[]int{1, 0}, []int{math.MinInt, math.MinInt}, 1},
		{[]int{1, 0}, []int{math.MaxInt, math.MaxInt}, 1},
		{[]int{1, 0}, []int{math.MaxInt - 1, math.MaxInt}, 0},
		{[]int{1, 0}, []int{math.MinInt, math.MinInt + 1}, 0},
		{[]int{0, 1}, []int{1, math.MinInt}, 1},
		{[]int{0, 1}, []int{-2, math.MaxInt}, 0},
		{[]int{1, 0}, []int{-2, math.MaxInt}, 0},
		{[]int{4, 1, 2}, nil, 4},
		{[]int{4, 1, 2}, []int{}, 4},
		{[]int{4, 1, 2}, []int{0}, 4},
		{[]int{4, 1, 2}, []int{0, math.MaxInt}, 1},
		{[]int{4, 2, 1}, []int{0, 8, math.MaxInt}, 1},
		{[]int{4, 2, 1}, []int{0, 8, 7, 6}, 2},
		{[]int{4, 2, 1}, []int{0, 8, 7, 6, 5}, 4},
		{[]int{63, 0}, same(63, math.MaxInt), 0},
		{[]int{63, 0}, same(64, math.MaxInt), 63},
		{[]int{63, 0}, append(same(63, 9), 8, 7, 6), 63},
		{[]int{63, 62}, append(same(64, 9), -1, -1), 63},
	} {
		b := made(t, c.tasks)
		best(t, &b.r, c.levels, c.want, true)
		shows(t, &b.r, c.tasks...)
	}
}

// TestLeastAtEachPlace: one alone has the least level, wherever it stands; and with two of them it is the one that came first.
func TestLeastAtEachPlace(t *testing.T) {
	for _, tasks := range someRows() {
		b := made(t, tasks)
		for at, task := range tasks {
			for _, level := range someLevels {
				if level == math.MinInt {
					continue
				}
				levels := same(64, level)
				levels[task] = level - 1
				best(t, &b.r, levels, task, true)
				for _, other := range []int{0, at / 2, len(tasks) - 1} {
					two := slices.Clone(levels)
					two[tasks[other]] = level - 1
					best(t, &b.r, two, tasks[min(at, other)], true)
				}
			}
		}
	}
}

// TestEqualLevels: of all the one that came first, whatever the level; and so again behind each that goes.
func TestEqualLevels(t *testing.T) {
	for _, tasks := range someRows() {
		for _, level := range someLevels {
			b := made(t, tasks)
			for _, task := range tasks {
				best(t, &b.r, same(64, level), task, true)
				removes(t, &b.r, task, true)
			}
			best(t, &b.r, same(64, level), 0, false)
		}
	}
}

// TestTasksWithoutLevel: by lists of each length, with the greatest level too, those that have none stand behind.
func TestTasksWithoutLevel(t *testing.T) {
	for _, tasks := range someRows() {
		b := made(t, tasks)
		for _, level := range []int{math.MaxInt, math.MaxInt - 1, 64, 31, 0, -1, math.MinInt} {
			for n := range 67 {
				at := max(0, slices.IndexFunc(tasks, func(task int) bool { return task < n }))
				if len(tasks) > 0 {
					best(t, &b.r, same(n, level), tasks[at], true)
				}
				b.asked(t, by(n, func(task int) int { return level - task&1 }))
				b.asked(t, by(n, func(task int) int { return level ^ task }))
			}
		}
	}
}

// TestListThatEndsNextToATask: each task's level is the last one of the list, or it is the first that there isn't.
func TestListThatEndsNextToATask(t *testing.T) {
	for task := 1; task < 64; task++ {
		b := made(t, []int{task, task - 1})
		best(t, &b.r, same(task+1, 3), task, true)
		best(t, &b.r, same(task, 3), task-1, true)
		best(t, &b.r, same(task-1, 3), task, true)
		levels := same(task+1, 3)
		levels[task] = 4
		best(t, &b.r, levels, task-1, true)
		b = made(t, []int{task - 1, task})
		levels[task] = 2
		best(t, &b.r, levels, task, true)
		best(t, &b.r, levels[:task], task-1, true)
		best(t, &b.r, levels[:task-1], task-1, true)
	}
}

// TestLevelsBehindTheLastTask: what stands behind the 64 levels, alters nothing.
func TestLevelsBehindTheLastTask(t *testing.T) {
	for _, tasks := range someRows() {
		b := made(t, tasks)
		for _, levels := range someLists() {
			if len(levels) != 64 {
				continue
			}
			for _, more := range [][]int{{math.MinInt}, {math.MaxInt}, same(64, -9), same(300, math.MinInt)} {
				b.asked(t, append(slices.Clone(levels), more...))
			}
		}
	}
}

// TestLevelsOfThoseThatDoNotWait: however low they are, and wherever, alone those of the row go by.
func TestLevelsOfThoseThatDoNotWait(t *testing.T) {
	for _, tasks := range someRows() {
		b := made(t, tasks)
		for _, levels := range someLists() {
			task, ok := b.m.best(levels)
			changed := slices.Clone(levels)
			for k := range changed {
				if !slices.Contains(tasks, k) {
					changed[k] = math.MinInt
				}
			}
			best(t, &b.r, changed, task, ok)
		}
	}
}

// TestTurns: the best one is removed, again and again: so all have their turns, in the order of their levels, and those that have none at the end.
func TestTurns(t *testing.T) {
	for _, tasks := range someRows() {
		for _, levels := range someLists() {
			b := made(t, tasks)
			for _, task := range b.m.turns(levels) {
				best(t, &b.r, levels, task, true)
				removes(t, &b.r, task, true)
			}
			best(t, &b.r, levels, 0, false)
		}
	}
}

// TestBestBehindEachCall: behind each Add, and behind each Remove, by one list and by another in turn.
func TestBestBehindEachCall(t *testing.T) {
	for _, tasks := range someRows() {
		for _, levels := range someLists() {
			b := &both{}
			for k := range 2 * len(tasks) {
				b.does(t, call{remove: k >= len(tasks), task: tasks[k*7%len(tasks)]})
				b.asked(t, levels)
				b.asked(t, same(20, 3))
				b.asked(t, levels)
			}
		}
	}
}

// TestLevelsStayAsTheyAre: a list that was handed in, spare room and all.
func TestLevelsStayAsTheyAre(t *testing.T) {
	for _, tasks := range someRows() {
		b := made(t, tasks)
		for _, levels := range someLists() {
			room := append(slices.Clone(levels), 91, -92, 93, math.MinInt)
			want := slices.Clone(room)
			b.asked(t, room[:len(levels)])
			if !slices.Equal(room, want) {
				t.Fatalf("the levels are changed from %d to %d", want, room)
			}
		}
		shows(t, &b.r, tasks...)
	}
}

// TestLevelsAreNotKept: what the caller changes in a list is gone by when the list is handed in again, and in no other answer.
func TestLevelsAreNotKept(t *testing.T) {
	b := made(t, []int{2, 0, 1})
	levels := []int{5, 6, 7}
	best(t, &b.r, levels, 0, true)
	levels[1] = 4
	shows(t, &b.r, 2, 0, 1)
	best(t, &b.r, nil, 2, true)
	best(t, &b.r, []int{5, 6, 7}, 0, true)
	best(t, &b.r, levels, 1, true)
	levels[2] = -1
	removes(t, &b.r, 1, true)
	best(t, &b.r, []int{5, 6, 7}, 0, true)
	best(t, &b.r, levels, 2, true)
	best(t, &b.r, levels[:2], 0, true)
}

// TestAskingChangesNothing: however often, and whatever is asked.
func TestAskingChangesNothing(t *testing.T) {
	for _, tasks := range someRows() {
		b := made(t, tasks)
		for range 5 {
			for k, levels := range someLists() {
				b.r.Best(levels)
				b.r.Has(k)
				b.r.All()
			}
		}
		shows(t, &b.r, tasks...)
		b.cleared(t)
	}
}

// P16.3

func TestZeroValue(t *testing.T) {
	var r wait.Row
	shows(t, &r)
	for task := range 64 {
		removes(t, &r, task, false)
	}
	for _, task := range noTasks {
		adds(t, &r, task, api.ErrArg)
		removes(t, &r, task, false)
	}
	shows(t, &r)
	adds(t, &r, 0, api.OK)
	shows(t, &r, 0)
}

func TestNil(t *testing.T) {
	var r *wait.Row
	for range 2 {
		for _, task := range slices.Concat(noTasks, everyone(0, 1)) {
			adds(t, r, task, api.ErrNil)
			removes(t, r, task, false)
			if r.Has(task) {
				t.Errorf("Has(%d)", task)
			}
		}
		for _, levels := range someLists() {
			best(t, r, levels, 0, false)
		}
		if all := r.All(); len(all) != 0 {
			t.Errorf("All: %d", all)
		}
	}
}

// TestTwoRows: what the one is told, the other one isn't.
func TestTwoRows(t *testing.T) {
	b, c := made(t, []int{4, 1, 2}), made(t, everyone(11, 37))
	random := rand.New(rand.NewSource(3))
	for range 3000 {
		d := b
		if random.Intn(2) == 0 {
			d = c
		}
		d.does(t, anyCall(random, 64))
		shows(t, &b.r, b.m.all()...)
		shows(t, &c.r, c.m.all()...)
	}
	b.cleared(t)
	shows(t, &c.r, c.m.all()...)
	c.cleared(t)
}

// All of it, against the chapter's words

// anyCall: a call of a task below so many; now and then of none.
func anyCall(random *rand.Rand, tasks int) call {
	c := call{random.Intn(2) == 0, random.Intn(tasks)}
	if random.Intn(30) == 0 {
		c.task = noTasks[random.Intn(len(noTasks))]
	}
	return c
}

// anyLevels: a list of any length about a row's, with levels of a kind.
func anyLevels(random *rand.Rand, tasks int) []int {
	levels := make([]int, random.Intn(tasks+4))
	kind := random.Intn(4)
	for k := range levels {
		switch kind {
		case 0:
			levels[k] = random.Intn(3) - 1
		case 1:
			levels[k] = random.Intn(32)
		case 2:
			levels[k] = someLevels[random.Intn(len(someLevels))]
		case 3:
			levels[k] = int(random.Uint64())
		}
	}
	return levels
}

// TestEachRun: all runs of so many calls, of few tasks.
func TestEachRun(t *testing.T) {
	for _, c := range []struct {
		tasks  []int
		length int
	}{{[]int{0, 63}, 7}, {[]int{2, 0, 1}, 5}, {[]int{6, 62, 7, 3}, 4}, {[]int{1, 64, -1}, 4}} {
		var calls []call
		for _, task := range c.tasks {
			calls = append(calls, call{false, task}, call{true, task})
		}
		eachRun(t, calls, c.length, nil)
	}
}

// eachRun: all runs of so many of these calls, behind those that were told already; what shows is asked at their ends alone.
func eachRun(t *testing.T, calls []call, length int, run []call) {
	t.Helper()
	b := both{}
	for _, c := range run {
		if got, want := b.tell(c); got != want {
			t.Fatalf("%s: %s, not %s, in %v", c.text(), got, want, run)
		}
	}
	shows(t, &b.r, b.m.all()...)
	if len(run) == length {
		return
	}
	for _, c := range calls {
		eachRun(t, calls, length, append(slices.Clone(run), c))
	}
}

// TestEachOrderAndLevels: all orders of up to four tasks, by all lists of up to four of three levels.
func TestEachOrderAndLevels(t *testing.T) {
	lists := [][]int{nil}
	for k := 0; k < len(lists); k++ {
		if len(lists[k]) < 4 {
			for _, level := range []int{math.MinInt, 0, math.MaxInt} {
				lists = append(lists, append(slices.Clone(lists[k]), level))
			}
		}
	}
	for code := range 256 {
		b := &both{}
		for k := range 4 {
			b.tell(call{task: code >> (2 * k) & 3})
		}
		for _, levels := range lists {
			b.asked(t, levels)
		}
	}
}

// TestMadeRuns: long ones, of few tasks and of all, by many lists.
func TestMadeRuns(t *testing.T) {
	for seed, tasks := range []int{1, 2, 3, 5, 8, 20, 40, 64, 64, 64} {
		random := rand.New(rand.NewSource(int64(seed)))
		b := &both{}
		for range 4000 {
			b.do(t, anyCall(random, tasks))
			b.asked(t, anyLevels(random, tasks))
		}
		b.cleared(t)
	}
}

// TestRunsThatFillAndEmpty: a long time more are added than removed, then fewer, so that the row grows long and is emptied.
func TestRunsThatFillAndEmpty(t *testing.T) {
	random := rand.New(rand.NewSource(99))
	b := &both{}
	longest := 0
	for k := range 12000 {
		c := anyCall(random, 64)
		if random.Intn(12) > 0 {
			c.remove = k/600%2 == 1
		}
		if c.remove && random.Intn(3) > 0 {
			if task, ok := b.m.best(anyLevels(random, 64)); ok {
				c.task = task
			}
		}
		b.do(t, c)
		b.asked(t, anyLevels(random, 64))
		longest = max(longest, len(b.m.all()))
	}
	if longest != 64 {
		t.Errorf("the row was never longer than %d", longest)
	}
	b.cleared(t)
}
