package ready_test

import (
	"fmt"
	"math"
	"math/rand"
	"slices"
	"testing"

	"taffrail/api"
	"taffrail/ready"
)

// noTasks: numbers that are no task's: those next to the bounds, the least and the greatest, and some that a cut to fewer bits would make a task's.
var noTasks = []int{-1, 64, -2, 65, -63, -64, -65, 127, 128, 255, 256, -256, 1 << 16, 1 << 31, -1 << 31, 1<<31 - 1, 1<<32 - 1, 1 << 32, 1<<32 + 5, -1 << 32, math.MaxInt, math.MaxInt - 1, math.MinInt, math.MinInt + 1, math.MinInt + 5}

// noLevels: the same for levels.
var noLevels = []int{-1, 32, -2, 33, -31, -32, -33, 63, 64, 255, 256, -256, 1 << 16, 1 << 31, -1 << 31, 1<<31 - 1, 1<<32 - 1, 1 << 32, 1<<32 + 3, -1 << 32, math.MaxInt, math.MaxInt - 1, math.MinInt, math.MinInt + 1, math.MinInt + 3}

// errors: those that a call may answer, for what a failing test tells.
var errors = map[api.Errno]string{api.OK: "OK", api.ErrArg: "ErrArg", api.ErrNil: "ErrNil"}

// rows are the queues by the chapter's words: for each level its tasks, the first one in front.
type rows [32][]int

// find: at which level a task stands, and at which place of its row; -1 and -1, if it stands nowhere.
func (r *rows) find(task int) (level, place int) {
	for level, row := range r {
		if place := slices.Index(row, task); place >= 0 {
			return level, place
		}
	}
	return -1, -1
}

func (r *rows) put(task, level int) api.Errno {
	at, _ := r.find(task)
	if task < 0 || task > 63 || level < 0 || level > 31 || at >= 0 {
		return api.ErrArg
	}
	r[level] = append(r[level], task)
	return api.OK
}

func (r *rows) remove(task int) bool {
	level, place := r.find(task)
	if level < 0 {
		return false
	}
	r[level] = slices.Delete(slices.Clone(r[level]), place, place+1)
	return true
}

func (r *rows) turn(task int) bool {
	level, _ := r.find(task)
	return r.remove(task) && r.put(task, level) == api.OK
}

func (r *rows) move(task, level int) bool {
	at, _ := r.find(task)
	if at < 0 || at == level || level < 0 || level > 31 {
		return false
	}
	return r.remove(task) && r.put(task, level) == api.OK
}

func (r *rows) first() (int, bool) {
	for _, row := range r {
		if len(row) > 0 {
			return row[0], true
		}
	}
	return 0, false
}

func (r *rows) count() int {
	n := 0
	for _, row := range r {
		n += len(row)
	}
	return n
}

// text: the rows that have tasks, as a failing test tells them.
func (r *rows) text() string {
	s := ""
	for level, row := range r {
		if len(row) > 0 {
			s += fmt.Sprintf(" %d: %d", level, row)
		}
	}
	return s
}

// stands: fails, unless the queues stand so, whatever they are asked.
func stands(t *testing.T, q *ready.Queues, want rows) {
	t.Helper()
	levels := [64]int{}
	for task := range levels {
		levels[task] = -1
	}
	for level, row := range want {
		if got := q.At(level); !slices.Equal(got, row) {
			t.Fatalf("At(%d): %d, not %d", level, got, row)
		}
		for _, task := range row {
			levels[task] = level
		}
	}
	for task, level := range levels {
		if got := q.Level(task); got != level {
			t.Fatalf("Level(%d): %d, not %d, by%s", task, got, level, want.text())
		}
	}
	task, ok := want.first()
	if gotTask, gotOk := q.First(); gotTask != task || gotOk != ok {
		t.Fatalf("First: %d, %v, not %d, %v, by%s", gotTask, gotOk, task, ok, want.text())
	}
	if got := q.Len(); got != want.count() {
		t.Fatalf("Len: %d, not %d, by%s", got, want.count(), want.text())
	}
}

// The calls that may change something, as a test tells them.
const (
	put = iota
	remove
	turn
	move
)

// call is one of them; level means nothing to remove and turn.
type call struct{ kind, task, level int }

// text: as a failing test tells it.
func (c call) text() string {
	switch c.kind {
	case put:
		return fmt.Sprintf("Put(%d, %d)", c.task, c.level)
	case remove:
		return fmt.Sprintf("Remove(%d)", c.task)
	case turn:
		return fmt.Sprintf("Turn(%d)", c.task)
	}
	return fmt.Sprintf("Move(%d, %d)", c.task, c.level)
}

// told: what the queues answer to a call.
func told(q *ready.Queues, c call) string {
	switch c.kind {
	case put:
		return errors[q.Put(c.task, c.level)]
	case remove:
		return fmt.Sprint(q.Remove(c.task))
	case turn:
		return fmt.Sprint(q.Turn(c.task))
	}
	return fmt.Sprint(q.Move(c.task, c.level))
}

// asked: what the rows answer to it.
func asked(r *rows, c call) string {
	switch c.kind {
	case put:
		return errors[r.put(c.task, c.level)]
	case remove:
		return fmt.Sprint(r.remove(c.task))
	case turn:
		return fmt.Sprint(r.turn(c.task))
	}
	return fmt.Sprint(r.move(c.task, c.level))
}

// both are queues and their model, which are told the same.
type both struct {
	q ready.Queues
	r rows
}

// do: fails, unless both answer the same to the call, and stand so then.
func (b *both) do(t *testing.T, c call) {
	t.Helper()
	before := b.r.text()
	if got, want := told(&b.q, c), asked(&b.r, c); got != want {
		t.Fatalf("%s: %s, not %s, from%s", c.text(), got, want, before)
	}
	stands(t, &b.q, b.r)
}

// made: queues that stand so; of the levels the last one is filled first.
func made(t *testing.T, r rows) *both {
	t.Helper()
	b := &both{}
	for level := 31; level >= 0; level-- {
		for _, task := range r[level] {
			if err := b.q.Put(task, level); err != api.OK {
				t.Fatalf("Put(%d, %d): %s", task, level, errors[err])
			}
			b.r[level] = append(b.r[level], task)
		}
	}
	stands(t, &b.q, b.r)
	return b
}

// cleared: all tasks are removed, from the last one on, and both stand so each time.
func (b *both) cleared(t *testing.T) {
	t.Helper()
	for task := 63; task >= 0; task-- {
		b.do(t, call{remove, task, 0})
	}
	if b.r.count() != 0 {
		t.Fatal("the rows have tasks yet")
	}
}

// several: rows of some lengths, at the first level, at the last one, and between.
func several() rows {
	return rows{0: {7}, 1: {63, 0}, 2: {5, 9, 1}, 16: {62}, 30: {8, 33, 32, 31, 2}, 31: {20, 10, 40, 30}}
}

// each: rows by which each level has so many tasks, those that a level has far from each other.
func each(n int) rows {
	var r rows
	for k := range 32 * n {
		r[(k*5+3)%32] = append(r[(k*5+3)%32], (k*37+11)%64)
	}
	return r
}

// one: rows by which all tasks stand at a level.
func one(level int) rows {
	var r rows
	for k := range 64 {
		r[level] = append(r[level], (k*29+17)%64)
	}
	return r
}

// manyRows: what the tests begin with.
func manyRows() []rows {
	return []rows{{}, {0: {0}}, {31: {63}}, {31: {0}}, {0: {63}}, {4: {3, 4}}, {4: {4, 3}, 5: {5}}, several(), each(1), each(2), one(0), one(13), one(31)}
}

// answers: fails, unless a call of First answers this.
func answers(t *testing.T, q *ready.Queues, task int, ok bool) {
	t.Helper()
	if gotTask, gotOk := q.First(); gotTask != task || gotOk != ok {
		t.Errorf("First: %d, %v, not %d, %v", gotTask, gotOk, task, ok)
	}
}

// puts: fails, unless Put answers so.
func puts(t *testing.T, q *ready.Queues, task, level int, want api.Errno) {
	t.Helper()
	if err := q.Put(task, level); err != want {
		t.Errorf("Put(%d, %d): %s, not %s", task, level, errors[err], errors[want])
	}
}

// is: fails, unless a call's answer is this one.
func is(t *testing.T, name string, got, want bool) {
	t.Helper()
	if got != want {
		t.Errorf("%s: %v, not %v", name, got, want)
	}
}

func TestLimitsOfTheDocument(t *testing.T) {
	if api.MaxTasks != 64 || api.Levels != 32 || api.OK != 0 || api.ErrArg != 1 || api.ErrNil != 16 {
		t.Fatal("the limits or the errors aren't those of the document")
	}
}

func TestExamplesOfTheChapter(t *testing.T) {
	var q ready.Queues
	puts(t, &q, 5, 3, api.OK)
	puts(t, &q, 2, 3, api.OK)
	puts(t, &q, 9, 1, api.OK)
	answers(t, &q, 9, true)
	stands(t, &q, rows{1: {9}, 3: {5, 2}})
	is(t, "Remove(9)", q.Remove(9), true)
	is(t, "Turn(5)", q.Turn(5), true)
	answers(t, &q, 2, true)
	stands(t, &q, rows{3: {2, 5}})
	is(t, "Move(5, 0)", q.Move(5, 0), true)
	answers(t, &q, 5, true)
	stands(t, &q, rows{0: {5}, 3: {2}})
}

// P14.1

// TestPut: each task at each level, alone, and removed again.
func TestPut(t *testing.T) {
	var q ready.Queues
	for task := range 64 {
		for level := range 32 {
			puts(t, &q, task, level, api.OK)
			var want rows
			want[level] = []int{task}
			stands(t, &q, want)
			is(t, "Remove", q.Remove(task), true)
			stands(t, &q, rows{})
		}
	}
}

// TestPutAtTheBack: one behind the other at one level, at two in turn, and at all of them.
func TestPutAtTheBack(t *testing.T) {
	orders := [][]int{{0, 1, 2, 3}, {3, 2, 1, 0}, {63, 0, 62, 1, 61}, {40, 39, 41, 31, 32, 33, 0, 63}}
	for _, order := range orders {
		for _, levels := range [][]int{{0}, {31}, {17}, {0, 31}, {31, 0}, {8, 7}, {5, 1, 9}} {
			b := &both{}
			for k, task := range order {
				b.do(t, call{put, task, levels[k%len(levels)]})
			}
			if row := b.q.At(levels[0]); len(levels) == 1 && !slices.Equal(row, order) {
				t.Fatalf("the row is %d, not %d", row, order)
			}
		}
	}
	b := &both{}
	for task := range 64 {
		b.do(t, call{put, task, (task*7 + 2) % 32})
	}
	for level, row := range b.r {
		if len(row) != 2 || row[0] != row[1]-32 {
			t.Errorf("at level %d there are %d", level, row)
		}
	}
}

// TestPutOfNoTaskOrLevel: ErrArg, alone or both, and all rows are as they were.
func TestPutOfNoTaskOrLevel(t *testing.T) {
	for _, r := range manyRows() {
		b := made(t, r)
		for _, task := range noTasks {
			for _, level := range []int{0, 3, 31} {
				puts(t, &b.q, task, level, api.ErrArg)
			}
			stands(t, &b.q, b.r)
		}
		for _, level := range noLevels {
			for _, task := range []int{0, 1, 5, 63} {
				puts(t, &b.q, task, level, api.ErrArg)
			}
			stands(t, &b.q, b.r)
			for _, task := range noTasks {
				puts(t, &b.q, task, level, api.ErrArg)
			}
			stands(t, &b.q, b.r)
		}
		b.cleared(t)
	}
}

// TestPutOfATaskThatStands: at its own level, at each other one, and at none: ErrArg, and all rows are as they were.
func TestPutOfATaskThatStands(t *testing.T) {
	for _, r := range manyRows() {
		b := made(t, r)
		for task := range 64 {
			if at, _ := b.r.find(task); at < 0 {
				continue
			}
			for level := range 32 {
				puts(t, &b.q, task, level, api.ErrArg)
			}
			for _, level := range noLevels {
				puts(t, &b.q, task, level, api.ErrArg)
			}
			stands(t, &b.q, b.r)
		}
		b.cleared(t)
	}
}

// TestRemove: each task of each row, from where all stand; what then follows it stands behind what was ahead of it.
func TestRemove(t *testing.T) {
	for _, r := range manyRows() {
		for task := range 64 {
			b := made(t, r)
			level, _ := b.r.find(task)
			is(t, "Remove", b.q.Remove(task), level >= 0)
			b.r.remove(task)
			stands(t, &b.q, b.r)
			is(t, "Remove, once more", b.q.Remove(task), false)
			stands(t, &b.q, b.r)
		}
	}
}

// others: each task of the level 30 of several, and those beside it.
var others = []struct {
	task int
	row  []int
}{{8, []int{33, 32, 31, 2}}, {33, []int{8, 32, 31, 2}}, {32, []int{8, 33, 31, 2}}, {31, []int{8, 33, 32, 2}}, {2, []int{8, 33, 32, 31}}}

func TestRemoveWrittenOut(t *testing.T) {
	for _, c := range others {
		b := made(t, several())
		is(t, "Remove", b.q.Remove(c.task), true)
		want := several()
		want[30] = c.row
		stands(t, &b.q, want)
	}
	b := made(t, several())
	is(t, "Remove(7)", b.q.Remove(7), true)
	is(t, "Remove(62)", b.q.Remove(62), true)
	want := several()
	want[0], want[16] = nil, nil
	stands(t, &b.q, want)
	answers(t, &b.q, 63, true)
}

// TestRemoveAll: one behind the other, in several orders.
func TestRemoveAll(t *testing.T) {
	for _, r := range manyRows() {
		for _, step := range []int{1, 63, 5, 27, 33} {
			b := made(t, r)
			for k := range 64 {
				b.do(t, call{remove, (k*step + 9) % 64, 0})
			}
			stands(t, &b.q, rows{})
			answers(t, &b.q, 0, false)
		}
	}
}

// TestRemovedAndPutAgain: at its level it stands at the back, at another one too, whichever place it had.
func TestRemovedAndPutAgain(t *testing.T) {
	for _, r := range manyRows() {
		for task := range 64 {
			at, _ := r.find(task)
			if at < 0 {
				continue
			}
			for _, level := range []int{at, 0, 31, 30, 4, (at + 1) % 32} {
				b := made(t, r)
				b.do(t, call{remove, task, 0})
				b.do(t, call{put, task, level})
				if row := b.q.At(level); row[len(row)-1] != task {
					t.Fatalf("put again at %d, and the row is %d", level, row)
				}
				b.do(t, call{put, task, at})
			}
		}
	}
}

// TestEmptiedAndFilledAgain: a level, with others filled and without.
func TestEmptiedAndFilledAgain(t *testing.T) {
	for _, r := range []rows{{}, {0: {60}}, {31: {60}}, {0: {60, 61}, 15: {62}, 31: {63}}} {
		for _, level := range []int{0, 1, 15, 30, 31} {
			b := made(t, r)
			for turns := range 4 {
				order := rand.New(rand.NewSource(int64(turns))).Perm(6)
				for k, task := range order {
					b.do(t, call{put, task, level})
					if n := len(b.q.At(level)); n != k+1+len(r[level]) {
						t.Fatalf("%d tasks at level %d", n, level)
					}
				}
				for k := range order {
					b.do(t, call{remove, order[(k*5+turns)%6], 0})
				}
			}
			stands(t, &b.q, r)
		}
	}
}

// TestNumbersThatAreNoTask: of each call, and all rows are as they were.
func TestNumbersThatAreNoTask(t *testing.T) {
	for _, r := range manyRows() {
		b := made(t, r)
		for _, task := range noTasks {
			is(t, "Remove", b.q.Remove(task), false)
			is(t, "Turn", b.q.Turn(task), false)
			for _, level := range []int{0, 4, 31, 32, -1, math.MaxInt, math.MinInt} {
				is(t, "Move", b.q.Move(task, level), false)
			}
			if level := b.q.Level(task); level != -1 {
				t.Errorf("Level(%d): %d", task, level)
			}
			stands(t, &b.q, b.r)
		}
		b.cleared(t)
	}
}

// P14.2

// TestTurn: each task, once, twice, and with each other one of its row.
func TestTurn(t *testing.T) {
	for _, r := range manyRows() {
		for task := range 64 {
			b := made(t, r)
			b.do(t, call{turn, task, 0})
			b.do(t, call{turn, task, 0})
			b.do(t, call{turn, (task + 1) % 64, 0})
			b.do(t, call{turn, task ^ 63, 0})
			b.do(t, call{turn, task, 0})
		}
	}
}

func TestTurnWrittenOut(t *testing.T) {
	for _, c := range others {
		b := made(t, several())
		is(t, "Turn", b.q.Turn(c.task), true)
		want := several()
		want[30] = append(slices.Clone(c.row), c.task)
		stands(t, &b.q, want)
	}
	b := made(t, several())
	for _, task := range []int{7, 62, 63, 20} {
		is(t, "Turn", b.q.Turn(task), true)
	}
	for _, task := range []int{3, 4, 61} {
		is(t, "Turn", b.q.Turn(task), false)
	}
	want := several()
	want[1], want[31] = []int{0, 63}, []int{10, 40, 30, 20}
	stands(t, &b.q, want)
	answers(t, &b.q, 7, true)
}

// TestTurnAllRound: as often as a row has tasks, each time the front: then it stands as it stood.
func TestTurnAllRound(t *testing.T) {
	for _, r := range manyRows() {
		b := made(t, r)
		for level, row := range r {
			for k, task := range row {
				if front := b.q.At(level)[0]; front != task {
					t.Fatalf("the front of level %d behind %d turns is %d, not %d", level, k, front, task)
				}
				b.do(t, call{turn, task, 0})
			}
		}
		stands(t, &b.q, r)
	}
}

// TestMove: each task to each level, its own one too, and then on.
func TestMove(t *testing.T) {
	for _, r := range manyRows() {
		for task := range 64 {
			b := made(t, r)
			for k := range 32 {
				b.do(t, call{move, task, (task + k*11) % 32})
			}
		}
		for task := range 64 {
			for _, level := range []int{0, 4, 13, 31} {
				b := made(t, r)
				b.do(t, call{move, task, level})
				b.do(t, call{move, task, level})
				b.do(t, call{move, (task + 7) % 64, level})
				b.do(t, call{move, task, level ^ 1})
			}
		}
	}
}

func TestMoveWrittenOut(t *testing.T) {
	for _, c := range []struct {
		task, level int
		from, to    []int
	}{
		{8, 31, []int{33, 32, 31, 2}, []int{20, 10, 40, 30, 8}},
		{32, 2, []int{8, 33, 31, 2}, []int{5, 9, 1, 32}},
		{2, 0, []int{8, 33, 32, 31}, []int{7, 2}},
		{2, 3, []int{8, 33, 32, 31}, []int{2}},
		{31, 16, []int{8, 33, 32, 2}, []int{62, 31}},
	} {
		b := made(t, several())
		is(t, "Move", b.q.Move(c.task, c.level), true)
		want := several()
		want[30], want[c.level] = c.from, c.to
		stands(t, &b.q, want)
		is(t, "Move, once more", b.q.Move(c.task, c.level), false)
		stands(t, &b.q, want)
	}
	b := made(t, several())
	is(t, "Move(7, 4)", b.q.Move(7, 4), true)
	answers(t, &b.q, 63, true)
	is(t, "Move(62, 0)", b.q.Move(62, 0), true)
	answers(t, &b.q, 62, true)
	is(t, "Move(7, 0)", b.q.Move(7, 0), true)
	answers(t, &b.q, 62, true)
	want := several()
	want[0], want[16] = []int{62, 7}, nil
	stands(t, &b.q, want)
}

// TestMoveNowhere: to its own level, whichever its place, or to one that isn't there, or of a task that stands nowhere: false, and all rows are as they were.
func TestMoveNowhere(t *testing.T) {
	for _, r := range manyRows() {
		b := made(t, r)
		for task := range 64 {
			for _, level := range noLevels {
				is(t, "Move to no level", b.q.Move(task, level), false)
			}
			at, _ := b.r.find(task)
			for level := range 32 {
				if at < 0 || at == level {
					is(t, "Move", b.q.Move(task, level), false)
				}
			}
			stands(t, &b.q, b.r)
		}
		b.cleared(t)
	}
}

// TestMoveAllTogether: all tasks of all levels to one, then level by level to others.
func TestMoveAllTogether(t *testing.T) {
	for _, level := range []int{0, 13, 31} {
		b := made(t, each(2))
		for k := range 64 {
			b.do(t, call{move, (k*11 + 5) % 64, level})
		}
		if row := b.q.At(level); len(row) != 64 {
			t.Fatalf("%d tasks are together", len(row))
		}
		for k := range 64 {
			b.do(t, call{move, (k*23 + 1) % 64, k / 2})
		}
		b.cleared(t)
	}
}

// P14.3

// TestFirst: with each pair of levels filled, and behind each of them is emptied.
func TestFirst(t *testing.T) {
	for low := range 32 {
		for high := low + 1; high < 32; high++ {
			var q ready.Queues
			puts(t, &q, 40, high, api.OK)
			answers(t, &q, 40, true)
			puts(t, &q, 50, low, api.OK)
			answers(t, &q, 50, true)
			puts(t, &q, 3, low, api.OK)
			puts(t, &q, 4, high, api.OK)
			answers(t, &q, 50, true)
			q.Remove(50)
			answers(t, &q, 3, true)
			q.Remove(3)
			answers(t, &q, 40, true)
			q.Turn(40)
			answers(t, &q, 4, true)
			q.Move(40, low)
			answers(t, &q, 40, true)
			q.Remove(40)
			q.Remove(4)
			answers(t, &q, 0, false)
		}
	}
}

// TestFirstIsTaken: the first one, again and again, by removing it and by moving it to the last level.
func TestFirstIsTaken(t *testing.T) {
	for _, r := range manyRows() {
		want := slices.Concat(r[:]...)
		b := made(t, r)
		for _, task := range want {
			answers(t, &b.q, task, true)
			b.do(t, call{remove, task, 0})
		}
		answers(t, &b.q, 0, false)
		b = made(t, r)
		for _, task := range want {
			answers(t, &b.q, task, true)
			b.do(t, call{move, task, 31})
			b.do(t, call{turn, task, 31})
		}
		if row := b.q.At(31); len(row) != len(want) {
			t.Fatalf("%d tasks at the last level, not %d", len(row), len(want))
		}
	}
}

func TestLevelsThatAreNotThere(t *testing.T) {
	for _, r := range manyRows() {
		b := made(t, r)
		for _, level := range noLevels {
			if row := b.q.At(level); len(row) != 0 {
				t.Errorf("At(%d): %d", level, row)
			}
		}
		stands(t, &b.q, r)
	}
}

// TestRowsAreNewMemory: what the caller does with the rows, spare room and all, changes neither the queues nor other rows.
func TestRowsAreNewMemory(t *testing.T) {
	for _, r := range manyRows() {
		b := made(t, r)
		for level := range r {
			row, other := b.q.At(level), b.q.At(level)
			for k := range row[:cap(row)] {
				row[:cap(row)][k] = 63 - k
			}
			_ = append(row, 1, 2, 3)
			slices.Sort(row)
			if !slices.Equal(other, r[level]) {
				t.Errorf("another row of level %d is changed to %d", level, other)
			}
			stands(t, &b.q, r)
		}
		b.cleared(t)
	}
}

// TestRowsStayAsTheyWere: a row that was answered isn't changed by what the queues are told later.
func TestRowsStayAsTheyWere(t *testing.T) {
	b := made(t, several())
	row := b.q.At(30)
	b.do(t, call{remove, 33, 0})
	b.do(t, call{turn, 8, 0})
	b.do(t, call{put, 50, 30})
	b.do(t, call{move, 2, 1})
	b.cleared(t)
	if !slices.Equal(row, several()[30]) {
		t.Errorf("the row is %d now", row)
	}
}

// TestAskingChangesNothing: however often, and whatever is asked.
func TestAskingChangesNothing(t *testing.T) {
	for _, r := range manyRows() {
		b := made(t, r)
		for range 5 {
			for k := -3; k < 70; k++ {
				b.q.At(k)
				b.q.Level(k)
				b.q.First()
				b.q.Len()
			}
			stands(t, &b.q, r)
		}
		b.cleared(t)
	}
}

// P14.4

func TestZeroValue(t *testing.T) {
	var q ready.Queues
	stands(t, &q, rows{})
	answers(t, &q, 0, false)
	if q.Len() != 0 {
		t.Errorf("Len: %d", q.Len())
	}
	for task := range 64 {
		is(t, "Remove", q.Remove(task), false)
		is(t, "Turn", q.Turn(task), false)
		if level := q.Level(task); level != -1 {
			t.Errorf("Level(%d): %d", task, level)
		}
		for level := range 32 {
			is(t, "Move", q.Move(task, level), false)
		}
	}
	for level := range 32 {
		if row := q.At(level); len(row) != 0 {
			t.Errorf("At(%d): %d", level, row)
		}
	}
	stands(t, &q, rows{})
	puts(t, new(ready.Queues), 0, 0, api.OK)
}

func TestNil(t *testing.T) {
	var q *ready.Queues
	numbers := slices.Concat(noTasks, noLevels, []int{0, 1, 5, 31, 63})
	for range 2 {
		answers(t, q, 0, false)
		if n := q.Len(); n != 0 {
			t.Errorf("Len: %d", n)
		}
		for _, n := range numbers {
			is(t, "Remove", q.Remove(n), false)
			is(t, "Turn", q.Turn(n), false)
			if level := q.Level(n); level != -1 {
				t.Errorf("Level(%d): %d", n, level)
			}
			if row := q.At(n); len(row) != 0 {
				t.Errorf("At(%d): %d", n, row)
			}
			for _, m := range numbers {
				puts(t, q, n, m, api.ErrNil)
				is(t, "Move", q.Move(n, m), false)
			}
		}
	}
}

// TestTwoQueues: what the one is told, the other one isn't.
func TestTwoQueues(t *testing.T) {
	b, c := made(t, several()), made(t, each(2))
	random := rand.New(rand.NewSource(3))
	for range 2000 {
		d := b
		if random.Intn(2) == 0 {
			d = c
		}
		d.do(t, anyCall(random, 64, 32))
		stands(t, &b.q, b.r)
		stands(t, &c.q, c.r)
	}
	b.cleared(t)
	stands(t, &c.q, c.r)
	c.cleared(t)
}

// All of it, against the chapter's words

// anyCall: a call of a task and a level below these; now and then of one that isn't there.
func anyCall(random *rand.Rand, tasks, levels int) call {
	c := call{random.Intn(4), random.Intn(tasks), random.Intn(levels)}
	switch random.Intn(40) {
	case 0:
		c.task = noTasks[random.Intn(len(noTasks))]
	case 1:
		c.level = noLevels[random.Intn(len(noLevels))]
	}
	return c
}

// TestEachRun: all runs of so many calls, of few tasks and levels.
func TestEachRun(t *testing.T) {
	for _, c := range []struct {
		tasks, levels []int
		length        int
	}{{[]int{0, 63}, []int{0, 31}, 5}, {[]int{0, 1, 63}, []int{31, 0}, 4}, {[]int{5, 6, 7}, []int{9}, 5}} {
		var calls []call
		for _, task := range c.tasks {
			calls = append(calls, call{remove, task, 0}, call{turn, task, 0})
			for _, level := range c.levels {
				calls = append(calls, call{put, task, level})
				if len(c.levels) > 1 {
					calls = append(calls, call{move, task, level})
				}
			}
		}
		eachRun(t, calls, c.length, nil)
	}
}

// eachRun: all runs of so many of these calls, behind those that were told already; what stands is asked at their ends alone.
func eachRun(t *testing.T, calls []call, length int, run []call) {
	t.Helper()
	b := both{}
	for _, c := range run {
		if got, want := told(&b.q, c), asked(&b.r, c); got != want {
			t.Fatalf("%s: %s, not %s, at the end of %v", c.text(), got, want, run)
		}
	}
	stands(t, &b.q, b.r)
	if len(run) == length {
		return
	}
	for _, c := range calls {
		eachRun(t, calls, length, append(slices.Clone(run), c))
	}
}

// TestMadeRuns: long ones, of few tasks and of all, at few levels and at all.
func TestMadeRuns(t *testing.T) {
	for seed, c := range []struct{ tasks, levels int }{{2, 1}, {3, 2}, {5, 1}, {8, 3}, {64, 1}, {64, 2}, {64, 8}, {64, 32}, {20, 32}, {1, 32}} {
		random := rand.New(rand.NewSource(int64(seed)))
		b := &both{}
		for range 4000 {
			b.do(t, anyCall(random, c.tasks, c.levels))
		}
		b.cleared(t)
	}
}

// TestRunsThatFillAndEmpty: a long time there are more puts than removes, then fewer, so that rows grow long and levels are emptied.
func TestRunsThatFillAndEmpty(t *testing.T) {
	random := rand.New(rand.NewSource(99))
	b := &both{}
	for k := range 12000 {
		c := anyCall(random, 64, 32)
		if k/600%2 == 0 && c.kind == remove && random.Intn(8) > 0 {
			c.kind = put
		} else if k/600%2 == 1 && c.kind == put && random.Intn(8) > 0 {
			c.kind = remove
		}
		b.do(t, c)
	}
	b.cleared(t)
}
