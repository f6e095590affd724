package conf_test

import (
	"fmt"
	"math"
	"math/rand"
	"reflect"
	"slices"
	"testing"

	"taffrail/api"
	"taffrail/conf"
	"taffrail/isa"
)

const word = math.MaxUint32

// errors: those that a fault may have, for what a failing test tells.
var errors = map[api.Errno]string{api.OK: "OK", api.ErrLong: "ErrLong", api.ErrRange: "ErrRange", api.ErrCode: "ErrCode"}

// none: nothing is wrong.
var none api.Fault

// halts and irets: what may stand anywhere in a task, and in a line.
var (
	halts = api.Instr{Op: api.OHalt}
	irets = api.Instr{Op: api.OIret}
)

// right: a system with each part filled in that may run, in memory of its own.
func right() api.Config {
	return api.Config{
		Tasks: []api.Task{
			{Level: 5, Offset: 1, Period: 100, Deadline: 50, Mem: 8, Code: []api.Instr{
				{Op: api.OLock, K: 0}, {Op: api.OSet, A: 1, K: 7}, {Op: api.OStore, A: 1, B: 2, K: 3}, {Op: api.OUnlock, K: 0}, {Op: api.ONext}, {Op: api.OJmp},
			}},
			{Level: 1, Offset: 2, Mem: 1, Code: []api.Instr{
				{Op: api.OWait, A: 1, C: 2, D: api.MTimed, K: 1}, {Op: api.ORecv, A: 3, B: 4, D: api.MWait}, {Op: api.OHalt},
			}},
			{Level: 31, Offset: 3, Period: 7, Code: []api.Instr{
				{Op: api.OSend, A: 1, B: 2, D: api.MTry, K: 1}, {Op: api.OArm, A: 1, C: 2, K: 1}, {Op: api.OYield}, {Op: api.OJz, A: 1, K: 2},
			}},
		},
		Lines: []api.Line{
			{Mem: 2, Code: []api.Instr{{Op: api.OIn, A: 1, K: 3}, {Op: api.OSend, A: 2, B: 1, D: api.MTry}, {Op: api.OIret}}},
			{Mem: 1, Code: []api.Instr{{Op: api.OPost, K: 1}, {Op: api.ODisarm, A: 1, K: 0}, {Op: api.OJnz, A: 1, K: 1}, {Op: api.OIret}}},
			{Code: []api.Instr{{Op: api.OIret}, {Op: api.OIret}, {Op: api.OIret}}},
		},
		Mutexes: 2,
		Sems:    []int{0, 3, 255},
		Queues:  []int{1, 4, 64},
		Timers:  []int{2, 0, 1},
		Table:   9,
		Mask:    5,
		Filter:  word - 3,
		Charge:  2,
		Cycle:   1000,
		Count:   40,
	}
}

// text: a fault as a failing test tells it.
func text(f api.Fault) string {
	return fmt.Sprintf("%s part %d index %d at %d", errors[f.Err], f.Part, f.Index, f.At)
}

// isFault: Check tells this one, each time, and what it was handed stays.
func isFault(t *testing.T, what string, c api.Config, want api.Fault) {
	t.Helper()
	before := fmt.Sprint(c)
	if got := conf.Check(c); got != want {
		t.Errorf("%s: Check told %s, not %s", what, text(got), text(want))
	}
	if got := conf.Check(c); got != want {
		t.Errorf("%s: Check told %s once more, not %s", what, text(got), text(want))
	}
	if fmt.Sprint(c) != before {
		t.Errorf("%s: Check changed what it was handed", what)
	}
}

// isSame: Same tells this, from both sides.
func isSame(t *testing.T, what string, a, b api.Config, want bool) {
	t.Helper()
	if conf.Same(a, b) != want || conf.Same(b, a) != want {
		t.Errorf("%s: Same told %t and %t, not %t", what, conf.Same(a, b), conf.Same(b, a), want)
	}
}

// fault: what is wrong in brief.
func fault(err api.Errno, part, index, at int) api.Fault {
	return api.Fault{Err: err, Part: part, Index: index, At: at}
}

// ranged: ErrRange there, if the number isn't from least to most.
func ranged(n, least, most, part, index, at int) api.Fault {
	if n >= least && n <= most {
		return none
	}
	return fault(api.ErrRange, part, index, at)
}

// around: a bound, those next to it, and some that a cut to fewer bits would bring near it.
func around(bounds ...int) []int {
	list := []int{math.MinInt, math.MinInt + 1, math.MinInt32, math.MinInt32 - 1, -256, -1, 0, 1, math.MaxInt32, math.MaxInt32 + 1, math.MaxInt - 1, math.MaxInt, 1 << 32}
	for _, n := range bounds {
		list = append(list, n-1, n, n+1, -n, n+1<<8, n+1<<16, n+1<<32, n-1<<32)
	}
	slices.Sort(list)
	return slices.Compact(list)
}

func TestExamplesOfTheChapter(t *testing.T) {
	isFault(t, "the zero Config", api.Config{}, none)
	isFault(t, "one task of Offset 0", api.Config{Tasks: []api.Task{{Offset: 0}}}, fault(api.ErrRange, 1, 0, 2))
}

// P12.1

func TestASystemThatMayRun(t *testing.T) {
	isFault(t, "each part filled in", right(), none)
	isFault(t, "each part at its greatest", greatest(), none)
	isFault(t, "each part at its least", api.Config{Tasks: []api.Task{{Offset: 1}}, Lines: []api.Line{{}}, Sems: []int{0}, Queues: []int{1}, Timers: []int{0}}, none)
}

// greatest: a system in which nothing can be more.
func greatest() api.Config {
	return api.Config{
		Tasks: times(64, api.Task{
			Level: 31, Offset: 1 << 30, Period: 1 << 30, Deadline: 1 << 30, Mem: 256, Code: times(256, halts),
		}),
		Lines:   times(16, api.Line{Mem: 256, Code: times(256, irets)}),
		Mutexes: 32,
		Sems:    times(32, 255),
		Queues:  times(32, 64),
		Timers:  times(32, 31),
		Table:   64,
		Mask:    0xffff,
		Filter:  word,
		Charge:  64,
		Cycle:   math.MaxUint64,
		Count:   math.MaxUint64,
	}
}

// times: a list of so many of one.
func times[T any](n int, x T) []T { return slices.Repeat([]T{x}, n) }

func TestHowManyTasksAndLines(t *testing.T) {
	for n := range 70 {
		isFault(t, fmt.Sprint(n, " tasks"), api.Config{Tasks: times(n, api.Task{Offset: 1})}, tooMany(n, 64, 1))
		isFault(t, fmt.Sprint(n, " wrong tasks"), api.Config{Tasks: times(n, api.Task{})}, firstOf(tooMany(n, 64, 1), ranged(-n, 0, 0, 1, 0, 2)))
		isFault(t, fmt.Sprint(n, " lines"), api.Config{Lines: times(n, api.Line{})}, tooMany(n, 16, 2))
		isFault(t, fmt.Sprint(n, " wrong lines"), api.Config{Lines: times(n, api.Line{Mem: -1})}, firstOf(tooMany(n, 16, 2), ranged(-n, 0, 0, 2, 0, 1)))
	}
	for _, n := range []int{256, 256 + 1, 1 << 16, 1<<16 + 1} {
		isFault(t, fmt.Sprint(n, " tasks"), api.Config{Tasks: times(n, api.Task{Offset: 1})}, fault(api.ErrLong, 1, 0, 0))
		isFault(t, fmt.Sprint(n, " lines"), api.Config{Lines: times(n, api.Line{})}, fault(api.ErrLong, 2, 0, 0))
	}
}

// tooMany: ErrLong in this part, if there are more than most.
func tooMany(n, most, part int) api.Fault {
	if n <= most {
		return none
	}
	return fault(api.ErrLong, part, 0, 0)
}

// firstOf: the first that is one.
func firstOf(list ...api.Fault) api.Fault {
	for _, f := range list {
		if f != none {
			return f
		}
	}
	return none
}

// numbersOfATask: the fields that a task's row bounds, in its order.
var numbersOfATask = []struct {
	name        string
	of          func(*api.Task) *int
	least, most int
}{
	{"Level", func(x *api.Task) *int { return &x.Level }, 0, 31},
	{"Offset", func(x *api.Task) *int { return &x.Offset }, 1, 1 << 30},
	{"Period", func(x *api.Task) *int { return &x.Period }, 0, 1 << 30},
	{"Deadline", func(x *api.Task) *int { return &x.Deadline }, 0, 1 << 30},
	{"Mem", func(x *api.Task) *int { return &x.Mem }, 0, 256},
}

func TestNumbersOfATask(t *testing.T) {
	for at, field := range numbersOfATask {
		for task := range 3 {
			for _, n := range around(0, 1, 31, 32, 256, 1<<30) {
				c := right()
				*field.of(&c.Tasks[task]) = n
				isFault(t, fmt.Sprint(field.name, " ", n), c, ranged(n, field.least, field.most, 1, task, at+1))
			}
		}
	}
	for _, x := range []struct {
		task api.Task
		want api.Fault
	}{
		{api.Task{Level: 0, Offset: 1}, none},
		{api.Task{Level: 31, Offset: 1}, none},
		{api.Task{Level: 32, Offset: 1}, fault(api.ErrRange, 1, 0, 1)},
		{api.Task{Level: -1, Offset: 1}, fault(api.ErrRange, 1, 0, 1)},
		{api.Task{Offset: 0}, fault(api.ErrRange, 1, 0, 2)},
		{api.Task{Offset: api.MaxTicks}, none},
		{api.Task{Offset: api.MaxTicks + 1}, fault(api.ErrRange, 1, 0, 2)},
		{api.Task{Offset: 1, Period: api.MaxTicks}, none},
		{api.Task{Offset: 1, Period: api.MaxTicks + 1}, fault(api.ErrRange, 1, 0, 3)},
		{api.Task{Offset: 1, Deadline: api.MaxTicks}, none},
		{api.Task{Offset: 1, Deadline: api.MaxTicks + 1}, fault(api.ErrRange, 1, 0, 4)},
		{api.Task{Offset: 1, Period: 1, Deadline: 2}, none},
		{api.Task{Offset: 1, Mem: api.MaxMem}, none},
		{api.Task{Offset: 1, Mem: api.MaxMem + 1}, fault(api.ErrRange, 1, 0, 5)},
	} {
		isFault(t, fmt.Sprint("task ", x.task), api.Config{Tasks: []api.Task{x.task}}, x.want)
	}
}

func TestMemoryOfALine(t *testing.T) {
	for line := range 3 {
		for _, n := range around(0, 256) {
			c := right()
			c.Lines[line].Mem = n
			isFault(t, fmt.Sprint("Mem of a line ", n), c, ranged(n, 0, 256, 2, line, 1))
		}
	}
}

func TestLengthsOfPrograms(t *testing.T) {
	for i := range 3 {
		for _, n := range []int{0, 1, 2, 255, 256, 257, 258, 512, 1 << 12, 1<<16 + 1} {
			c := right()
			c.Tasks[i].Code = times(n, halts)
			isFault(t, fmt.Sprint("a task's program of ", n), c, tooLong(n, 1, i, 6))
			c = right()
			c.Lines[i].Code = times(n, irets)
			isFault(t, fmt.Sprint("a line's program of ", n), c, tooLong(n, 2, i, 2))
		}
	}
}

// tooLong: ErrLong there, if a program has more than it may.
func tooLong(n, part, index, at int) api.Fault {
	if n <= 256 {
		return none
	}
	return fault(api.ErrLong, part, index, at)
}

// wrongInTasks and wrongInLines: some that may not stand there, and the error.
var wrongInTasks = []struct {
	i   api.Instr
	err api.Errno
}{
	{api.Instr{}, api.ErrCode},
	{api.Instr{Op: -1}, api.ErrCode},
	{api.Instr{Op: 39, A: 8}, api.ErrCode},
	{api.Instr{Op: 99}, api.ErrCode},
	{api.Instr{Op: math.MaxInt}, api.ErrCode},
	{api.Instr{Op: api.OIret}, api.ErrCode},
	{api.Instr{Op: api.OIret, A: 1}, api.ErrRange},
	{api.Instr{Op: api.OSet, A: 8}, api.ErrRange},
	{api.Instr{Op: api.OSend, A: 1, B: 2, C: 3, D: api.MTry}, api.ErrRange},
	{api.Instr{Op: api.OWait, D: 3}, api.ErrRange},
	{api.Instr{Op: api.OWork}, api.ErrRange},
	{api.Instr{Op: api.OWork, K: 1001}, api.ErrRange},
	{api.Instr{Op: api.OOut, K: 16}, api.ErrRange},
	{api.Instr{Op: api.OJmp, K: 257}, api.ErrRange},
	{api.Instr{Op: api.OJz, K: word}, api.ErrRange},
}

var wrongInLines = []struct {
	i   api.Instr
	err api.Errno
}{
	{api.Instr{}, api.ErrCode},
	{api.Instr{Op: -1}, api.ErrCode},
	{api.Instr{Op: 39, A: 8}, api.ErrCode},
	{api.Instr{Op: api.OLock}, api.ErrCode},
	{api.Instr{Op: api.OUnlock}, api.ErrCode},
	{api.Instr{Op: api.OWait, D: api.MTry}, api.ErrCode},
	{api.Instr{Op: api.OSleep}, api.ErrCode},
	{api.Instr{Op: api.OYield}, api.ErrCode},
	{api.Instr{Op: api.ONext}, api.ErrCode},
	{api.Instr{Op: api.OHalt}, api.ErrCode},
	{api.Instr{Op: api.OSend, D: api.MWait}, api.ErrCode},
	{api.Instr{Op: api.OSend, D: api.MTimed}, api.ErrCode},
	{api.Instr{Op: api.ORecv, D: api.MWait}, api.ErrCode},
	{api.Instr{Op: api.ORecv, D: api.MTimed, C: 1}, api.ErrCode},
	{api.Instr{Op: api.OHalt, K: 1}, api.ErrRange},
	{api.Instr{Op: api.OMask, A: 8}, api.ErrRange},
	{api.Instr{Op: api.OWork, K: 1001}, api.ErrRange},
	{api.Instr{Op: api.OJnz, K: 257}, api.ErrRange},
}

func TestInstructionsThatMayNotStandThere(t *testing.T) {
	for _, size := range []int{1, 2, 3, 100, 255, 256} {
		for _, place := range []int{0, size / 2, size - 1} {
			for index := range 3 {
				for _, x := range wrongInTasks {
					c := right()
					c.Tasks[index].Code = times(size, halts)
					c.Tasks[index].Code[place] = x.i
					isFault(t, fmt.Sprint("in a task's program ", x.i), c, fault(x.err, 1, index, 7+place))
				}
				for _, x := range wrongInLines {
					c := right()
					c.Lines[index].Code = times(size, irets)
					c.Lines[index].Code[place] = x.i
					isFault(t, fmt.Sprint("in a line's program ", x.i), c, fault(x.err, 2, index, 3+place))
				}
			}
		}
	}
}

func TestJumpsByTheSizeOfTheirProgram(t *testing.T) {
	for _, op := range []int{api.OJmp, api.OJz, api.OJnz} {
		for _, size := range []int{1, 2, 3, 255, 256} {
			for _, k := range []int{0, 1, size - 2, size - 1, size, size + 1, 255, 256, 257} {
				if k < 0 {
					continue
				}
				c := right()
				c.Tasks[1].Code = times(size, halts)
				c.Tasks[1].Code[size-1] = api.Instr{Op: op, K: uint32(k)}
				isFault(t, fmt.Sprintf("a task's jump to %d of %d", k, size), c, ranged(k, 0, size-1, 1, 1, 6+size))
				c = right()
				c.Lines[1].Code = times(size, irets)
				c.Lines[1].Code[size-1] = api.Instr{Op: op, K: uint32(k)}
				isFault(t, fmt.Sprintf("a line's jump to %d of %d", k, size), c, ranged(k, 0, size-1, 2, 1, 2+size))
			}
		}
	}
}

func TestEachInstructionInTasksAndLines(t *testing.T) {
	for op := range 41 {
		for d := range 4 {
			for _, k := range []uint32{0, 1, 2, 16} {
				i := api.Instr{Op: op, D: d, K: k}
				c := right()
				c.Tasks[2].Code = []api.Instr{halts, i}
				isFault(t, fmt.Sprint("in a task's program ", i), c, errorAt(isa.Check(i, 2, false), 1, 2, 8))
				c = right()
				c.Lines[2].Code = []api.Instr{irets, i}
				isFault(t, fmt.Sprint("in a line's program ", i), c, errorAt(isa.Check(i, 2, true), 2, 2, 4))
			}
		}
	}
}

// errorAt: this error there, if it is one.
func errorAt(err api.Errno, part, index, at int) api.Fault {
	if err == api.OK {
		return none
	}
	return fault(err, part, index, at)
}

func TestMutexesTableAndCharge(t *testing.T) {
	for _, n := range around(0, 32, 64) {
		c := right()
		c.Mutexes = n
		isFault(t, fmt.Sprint("Mutexes ", n), c, ranged(n, 0, 32, 3, 0, 0))
		c = right()
		c.Table = n
		isFault(t, fmt.Sprint("Table ", n), c, ranged(n, 0, 64, 7, 0, 0))
		c = right()
		c.Charge = n
		isFault(t, fmt.Sprint("Charge ", n), c, ranged(n, 0, 64, 9, 0, 0))
	}
}

// objects: the lists of numbers, and what each number may be where there are 3 semaphores.
var objects = []struct {
	name        string
	of          func(*api.Config) *[]int
	part        int
	least, most int
}{
	{"Sems", func(c *api.Config) *[]int { return &c.Sems }, 4, 0, 255},
	{"Queues", func(c *api.Config) *[]int { return &c.Queues }, 5, 1, 64},
	{"Timers", func(c *api.Config) *[]int { return &c.Timers }, 6, 0, 2},
}

func TestSemaphoresQueuesAndTimers(t *testing.T) {
	for _, x := range objects {
		for n := range 40 {
			c := right()
			c.Timers = nil
			c.Sems = times(3, 1)
			*x.of(&c) = times(n, x.most)
			isFault(t, fmt.Sprint(x.name, " so many: ", n), c, tooMany(n, 32, x.part))
			*x.of(&c) = times(n, -1)
			isFault(t, fmt.Sprint(x.name, " so many wrong ones: ", n), c, firstOf(tooMany(n, 32, x.part), ranged(-n, 0, 0, x.part, 0, 1)))
		}
		for _, n := range around(0, 1, 2, 64, 255) {
			for _, index := range []int{0, 1, 2, 15, 31} {
				c := right()
				c.Sems = times(3, 1)
				if x.part == 4 {
					c.Timers = nil
				}
				*x.of(&c) = times(max(3, index+1), x.least)
				(*x.of(&c))[index] = n
				isFault(t, fmt.Sprint(x.name, " ", n), c, ranged(n, x.least, x.most, x.part, index, 1))
			}
		}
	}
}

func TestTimersNameSemaphores(t *testing.T) {
	for sems := range 33 {
		for timer := -1; timer < 40; timer++ {
			c := right()
			c.Sems = times(sems, 1)
			c.Timers = []int{timer}
			isFault(t, fmt.Sprintf("a timer of %d and %d semaphores", timer, sems), c, ranged(timer, 0, sems-1, 6, 0, 1))
		}
	}
	isFault(t, "no timer and no semaphore", api.Config{Timers: []int{}, Sems: nil}, none)
}

func TestMaskByTheLines(t *testing.T) {
	for lines := range 17 {
		for bit := range 32 {
			for _, rest := range []uint32{0, 1<<lines - 1} {
				c := api.Config{Lines: times(lines, api.Line{}), Mask: rest | 1<<bit}
				isFault(t, fmt.Sprintf("%d lines, the mask %b", lines, c.Mask), c, ranged(bit, 0, lines-1, 8, 0, 0))
			}
		}
		isFault(t, fmt.Sprint(lines, " lines, all of them"), api.Config{Lines: times(lines, api.Line{}), Mask: 1<<lines - 1}, none)
		isFault(t, fmt.Sprint(lines, " lines, all bits"), api.Config{Lines: times(lines, api.Line{}), Mask: word}, fault(api.ErrRange, 8, 0, 0))
		isFault(t, fmt.Sprint(lines, " lines, none"), api.Config{Lines: times(lines, api.Line{})}, none)
	}
}

func TestFilterCycleAndCountAreAny(t *testing.T) {
	for bit := range 65 {
		for _, n := range []uint64{1 << bit, 1<<bit - 1, ^uint64(1 << bit)} {
			for _, start := range []func() api.Config{right, func() api.Config { return api.Config{} }} {
				c := start()
				c.Filter = uint32(n)
				isFault(t, fmt.Sprint("Filter ", c.Filter), c, none)
				c = start()
				c.Cycle = n
				isFault(t, fmt.Sprint("Cycle ", n), c, none)
				c = start()
				c.Count = n
				isFault(t, fmt.Sprint("Count ", n), c, none)
				c.Filter, c.Cycle = uint32(n), n
				isFault(t, fmt.Sprint("all three ", n), c, none)
			}
		}
	}
}

// wrong: something that can be wrong in the system right, whatever else is, and its fault.
type wrong struct {
	turn  func(*api.Config)
	fault api.Fault
}

// wrongs: one for each row of the chapter's table, and for each task, line and object, in the order of the table.
func wrongs() []wrong {
	list := []wrong{{func(c *api.Config) { c.Tasks = append(c.Tasks, make([]api.Task, 62)...) }, fault(api.ErrLong, 1, 0, 0)}}
	for i := range 3 {
		for at, field := range numbersOfATask {
			list = append(list, wrong{func(c *api.Config) { *field.of(&c.Tasks[i]) = -1 }, fault(api.ErrRange, 1, i, at+1)})
		}
		list = append(list, wrong{func(c *api.Config) { c.Tasks[i].Code = append(c.Tasks[i].Code, times(255, irets)...) }, fault(api.ErrLong, 1, i, 6)})
		for place := range 3 {
			list = append(list, wrong{func(c *api.Config) { c.Tasks[i].Code[place] = irets }, fault(api.ErrCode, 1, i, 7+place)})
		}
	}
	list = append(list, wrong{func(c *api.Config) { c.Lines = append(c.Lines, times(14, api.Line{Mem: -1})...) }, fault(api.ErrLong, 2, 0, 0)})
	for i := range 3 {
		list = append(list, wrong{func(c *api.Config) { c.Lines[i].Mem = 257 }, fault(api.ErrRange, 2, i, 1)})
		list = append(list, wrong{func(c *api.Config) { c.Lines[i].Code = append(c.Lines[i].Code, times(254, halts)...) }, fault(api.ErrLong, 2, i, 2)})
		for place := range 3 {
			list = append(list, wrong{func(c *api.Config) { c.Lines[i].Code[place] = halts }, fault(api.ErrCode, 2, i, 3+place)})
		}
	}
	list = append(list, wrong{func(c *api.Config) { c.Mutexes = 33 }, fault(api.ErrRange, 3, 0, 0)})
	for _, x := range objects {
		list = append(list, wrong{func(c *api.Config) { *x.of(c) = append(*x.of(c), make([]int, 30)...) }, fault(api.ErrLong, x.part, 0, 0)})
		for i := range 3 {
			list = append(list, wrong{func(c *api.Config) { (*x.of(c))[i] = 256 }, fault(api.ErrRange, x.part, i, 1)})
		}
	}
	return append(list,
		wrong{func(c *api.Config) { c.Table = 65 }, fault(api.ErrRange, 7, 0, 0)},
		wrong{func(c *api.Config) { c.Mask |= 1 << 31 }, fault(api.ErrRange, 8, 0, 0)},
		wrong{func(c *api.Config) { c.Charge = -1 }, fault(api.ErrRange, 9, 0, 0)},
	)
}

func TestTwoThingsAreWrong(t *testing.T) {
	list := wrongs()
	for i, first := range list {
		c := right()
		first.turn(&c)
		want := firstWrong(c)
		isFault(t, text(first.fault), c, want)
		if want != first.fault {
			t.Errorf("the model told %s, not %s", text(want), text(first.fault))
		}
		for _, second := range list[i+1:] {
			what := text(first.fault) + " and " + text(second.fault)
			c := right()
			first.turn(&c)
			second.turn(&c)
			isFault(t, what, c, first.fault)
			c = right()
			second.turn(&c)
			first.turn(&c)
			isFault(t, what+", turned the other way round", c, first.fault)
		}
	}
}

func TestAllIsWrongFromSomePlaceOn(t *testing.T) {
	list := wrongs()
	for i := range list {
		c := right()
		for _, x := range list[i:] {
			x.turn(&c)
		}
		isFault(t, "all from "+text(list[i].fault)+" on", c, list[i].fault)
	}
}

func TestTwoOfOneInstructionAreWrong(t *testing.T) {
	for _, x := range []struct {
		i          api.Instr
		task, line api.Errno
	}{
		{api.Instr{Op: api.OIret, K: 1}, api.ErrRange, api.ErrRange},
		{api.Instr{Op: api.OYield, K: 1}, api.ErrRange, api.ErrRange},
		{api.Instr{Op: 40, K: 1}, api.ErrCode, api.ErrCode},
		{api.Instr{Op: api.OJmp, A: 1, K: 100}, api.ErrRange, api.ErrRange},
	} {
		isFault(t, fmt.Sprint("in a task ", x.i), api.Config{Tasks: []api.Task{{Offset: 1, Code: []api.Instr{x.i, {Op: 99}}}}}, fault(x.task, 1, 0, 7))
		isFault(t, fmt.Sprint("in a line ", x.i), api.Config{Lines: []api.Line{{Code: []api.Instr{x.i, {Op: 99}}}}}, fault(x.line, 2, 0, 3))
	}
}

// firstWrong: what Check should tell, by the chapter's words: all that is wrong, and of it the first.
func firstWrong(c api.Config) api.Fault {
	var all []api.Fault
	tell := func(f api.Fault) {
		if f != none {
			all = append(all, f)
		}
	}
	tell(tooMany(len(c.Tasks), api.MaxTasks, 1))
	for i, x := range c.Tasks {
		for at, field := range numbersOfATask {
			tell(ranged(*field.of(&x), field.least, field.most, 1, i, at+1))
		}
		tell(tooLong(len(x.Code), 1, i, 6))
		for place, in := range x.Code {
			tell(errorAt(isa.Check(in, len(x.Code), false), 1, i, 7+place))
		}
	}
	tell(tooMany(len(c.Lines), api.MaxLines, 2))
	for i, x := range c.Lines {
		tell(ranged(x.Mem, 0, api.MaxMem, 2, i, 1))
		tell(tooLong(len(x.Code), 2, i, 2))
		for place, in := range x.Code {
			tell(errorAt(isa.Check(in, len(x.Code), true), 2, i, 3+place))
		}
	}
	tell(ranged(c.Mutexes, 0, api.MaxObjects, 3, 0, 0))
	for _, x := range objects {
		tell(tooMany(len(*x.of(&c)), api.MaxObjects, x.part))
		for i, n := range *x.of(&c) {
			most := x.most
			if x.part == 6 {
				most = len(c.Sems) - 1
			}
			tell(ranged(n, x.least, most, x.part, i, 1))
		}
	}
	tell(ranged(c.Table, 0, api.MaxTable, 7, 0, 0))
	for bit := len(c.Lines); bit < 32; bit++ {
		tell(ranged(int(c.Mask>>bit&1), 0, 0, 8, 0, 0))
	}
	tell(ranged(c.Charge, 0, api.MaxCharge, 9, 0, 0))
	return firstOf(all...)
}

// made: a system made from chosen numbers, in which now and then something is wrong.
func made(r *rand.Rand, wrongIn int) api.Config {
	pick := func(least, most int) int {
		if r.Intn(wrongIn) == 0 {
			return []int{least - 1, most + 1}[r.Intn(2)]
		}
		return []int{least, most, least + r.Intn(most-least+1)}[r.Intn(3)]
	}
	some := func(most int) int {
		if r.Intn(4*wrongIn) == 0 {
			return most + 1
		}
		return r.Intn(most + 1)
	}
	program := func(isr bool) []api.Instr {
		size := r.Intn(6)
		if r.Intn(4*wrongIn) == 0 {
			size = 257
		}
		code := make([]api.Instr, size)
		for i := range code {
			code[i] = anyInstr(r)
			for isa.Check(code[i], size, isr) != api.OK && r.Intn(8*wrongIn) != 0 {
				code[i] = anyInstr(r)
			}
		}
		return code
	}
	numbers := func(least, most int) []int {
		list := make([]int, some(32))
		for i := range list {
			list[i] = pick(least, most)
		}
		return list
	}
	c := api.Config{Mutexes: pick(0, 32), Sems: numbers(0, 255), Queues: numbers(1, 64), Table: pick(0, 64), Charge: pick(0, 64),
		Filter: r.Uint32(), Cycle: r.Uint64(), Count: r.Uint64()}
	if len(c.Sems) > 0 {
		c.Timers = numbers(0, len(c.Sems)-1)
	}
	for range some(16) {
		c.Lines = append(c.Lines, api.Line{Mem: pick(0, 256), Code: program(true)})
	}
	for range r.Intn(8) {
		c.Tasks = append(c.Tasks, api.Task{Level: pick(0, 31), Offset: pick(1, 1<<30), Period: pick(0, 1<<30), Deadline: pick(0, 1<<30), Mem: pick(0, 256), Code: program(false)})
	}
	c.Mask = r.Uint32() & (1<<len(c.Lines) - 1)
	if r.Intn(wrongIn) == 0 {
		c.Mask |= 1 << r.Intn(32)
	}
	return c
}

// anyInstr: an instruction that can be, or one that can't.
func anyInstr(r *rand.Rand) api.Instr {
	return api.Instr{Op: r.Intn(40), A: r.Intn(8), D: r.Intn(3), K: uint32(r.Intn(8))}
}

func TestMadeSystems(t *testing.T) {
	r := rand.New(rand.NewSource(12))
	told := map[string]int{}
	for i := range 6000 {
		c := made(r, []int{5, 50, 500}[i%3])
		want := firstWrong(c)
		isFault(t, fmt.Sprint("the made system ", i), c, want)
		told[fmt.Sprint(want.Part, errors[want.Err], min(want.At, 7))]++
	}
	for _, kind := range []string{"0OK0", "1ErrRange1", "1ErrRange2", "1ErrRange3", "1ErrRange4", "1ErrRange5", "1ErrLong6", "1ErrCode7", "1ErrRange7", "2ErrLong0", "2ErrRange1", "2ErrLong2",
		"3ErrRange0", "4ErrLong0", "4ErrRange1", "5ErrLong0", "5ErrRange1", "6ErrLong0", "6ErrRange1", "7ErrRange0", "8ErrRange0", "9ErrRange0"} {
		if told[kind] == 0 {
			t.Errorf("no made system had %s, but %v", kind, told)
		}
	}
}

func TestListsThatAreNilAndListsThatAreEmpty(t *testing.T) {
	isFault(t, "empty lists", emptied(), none)
	isSame(t, "nil and empty lists", api.Config{}, emptied(), true)
	a := api.Config{Tasks: []api.Task{{Offset: 1}}, Lines: []api.Line{{}}}
	b := api.Config{Tasks: []api.Task{{Offset: 1, Code: []api.Instr{}}}, Lines: []api.Line{{Code: []api.Instr{}}}}
	isFault(t, "a program that is nil", a, none)
	isFault(t, "a program that is empty", b, none)
	isSame(t, "nil and empty programs", a, b, true)
	for _, x := range []api.Config{{}, emptied(), a, b} {
		isSame(t, "a copy", conf.Copy(x), x, true)
		isSame(t, "a copy of a copy", conf.Copy(conf.Copy(x)), x, true)
	}
}

// emptied: the zero Config, but with lists that aren't nil.
func emptied() api.Config {
	return api.Config{Tasks: []api.Task{}, Lines: []api.Line{}, Sems: []int{}, Queues: make([]int, 0, 4), Timers: []int{}}
}

// P12.2

// change: a change of a system alone, and what it is.
type change struct {
	name string
	turn func(*api.Config)
}

// changes: for each field of a system like c, of its elements and theirs, those that change it alone.
func changes(c api.Config) []change {
	var list []change
	changesOf(reflect.TypeFor[api.Config](), reflect.ValueOf(c), "", func(c *api.Config) reflect.Value { return reflect.ValueOf(c).Elem() }, &list)
	return list
}

// changesOf: the changes of a value that stands in a system where get tells.
func changesOf(typ reflect.Type, now reflect.Value, name string, get func(*api.Config) reflect.Value, list *[]change) {
	tell := func(what string, turn func(reflect.Value)) {
		*list = append(*list, change{name + what, func(c *api.Config) { turn(get(c)) }})
	}
	switch typ.Kind() {
	case reflect.Struct:
		for i := range typ.NumField() {
			changesOf(typ.Field(i).Type, now.Field(i), name+"."+typ.Field(i).Name, func(c *api.Config) reflect.Value { return get(c).Field(i) }, list)
		}
	case reflect.Slice:
		for i := range now.Len() {
			changesOf(typ.Elem(), now.Index(i), fmt.Sprintf("%s[%d]", name, i), func(c *api.Config) reflect.Value { return get(c).Index(i) }, list)
			tell(fmt.Sprint(" without ", i), func(v reflect.Value) {
				v.Set(reflect.AppendSlice(fresh(v, 0, i), v.Slice(i+1, v.Len())))
			})
		}
		tell(" and one more behind", func(v reflect.Value) { v.Set(reflect.Append(fresh(v, 0, v.Len()), reflect.Zero(typ.Elem()))) })
		tell(" and one more ahead", func(v reflect.Value) {
			one := reflect.MakeSlice(typ, 1, 1)
			v.Set(reflect.AppendSlice(one, v))
		})
	case reflect.Int:
		for bit := range 64 {
			tell(fmt.Sprint(" bit ", bit), func(v reflect.Value) { v.SetInt(v.Int() ^ 1<<bit) })
		}
	default:
		for bit := range typ.Bits() {
			tell(fmt.Sprint(" bit ", bit), func(v reflect.Value) { v.SetUint(v.Uint() ^ 1<<bit) })
		}
	}
}

// fresh: a part of a list in new memory.
func fresh(v reflect.Value, from, to int) reflect.Value {
	return reflect.AppendSlice(reflect.MakeSlice(v.Type(), 0, v.Len()), v.Slice(from, to))
}

func TestSameByEachFieldElementAndLength(t *testing.T) {
	isSame(t, "one system twice", right(), right(), true)
	list := changes(right())
	if len(list) < 64*(7*3+3*3+5) {
		t.Fatalf("%d changes are too few", len(list))
	}
	for _, x := range list {
		c := right()
		x.turn(&c)
		isSame(t, x.name, c, right(), false)
		isSame(t, x.name+", with itself", c, c, true)
		isSame(t, x.name+", with its copy", c, conf.Copy(c), true)
	}
	zero := api.Config{}
	for _, x := range changes(zero) {
		var c api.Config
		x.turn(&c)
		isSame(t, x.name+" of the zero Config", c, zero, false)
		isSame(t, x.name+" of the zero Config, with its copy", conf.Copy(c), c, true)
	}
}

func TestSameByOrderAndBySideOfLists(t *testing.T) {
	for _, x := range []change{
		{"tasks in another order", func(c *api.Config) { c.Tasks[0], c.Tasks[1] = c.Tasks[1], c.Tasks[0] }},
		{"lines in another order", func(c *api.Config) { c.Lines[0], c.Lines[2] = c.Lines[2], c.Lines[0] }},
		{"instructions in another order", func(c *api.Config) { slices.Reverse(c.Tasks[0].Code) }},
		{"a line's instructions in another order", func(c *api.Config) { slices.Reverse(c.Lines[0].Code) }},
		{"semaphores in another order", func(c *api.Config) { slices.Reverse(c.Sems) }},
		{"queues in another order", func(c *api.Config) { slices.Reverse(c.Queues) }},
		{"timers in another order", func(c *api.Config) { slices.Reverse(c.Timers) }},
		{"semaphores as queues", func(c *api.Config) { c.Sems, c.Queues = c.Queues, c.Sems }},
		{"queues as timers", func(c *api.Config) { c.Queues, c.Timers = c.Timers, c.Queues }},
		{"a program in another task", func(c *api.Config) { c.Tasks[0].Code, c.Tasks[1].Code = c.Tasks[1].Code, c.Tasks[0].Code }},
		{"a program in another line", func(c *api.Config) { c.Lines[0].Code, c.Lines[1].Code = c.Lines[1].Code, c.Lines[0].Code }},
		{"mutexes and table", func(c *api.Config) { c.Mutexes, c.Table = c.Table, c.Mutexes }},
		{"mask and filter", func(c *api.Config) { c.Mask, c.Filter = c.Filter, c.Mask }},
		{"table and charge", func(c *api.Config) { c.Table, c.Charge = c.Charge, c.Table }},
		{"cycle and count", func(c *api.Config) { c.Cycle, c.Count = c.Count, c.Cycle }},
	} {
		c := right()
		x.turn(&c)
		isSame(t, x.name, c, right(), false)
		isSame(t, x.name+", with its copy", c, conf.Copy(c), true)
	}
}

func TestCopyAndWhatItWasMadeOfGoTheirOwnWays(t *testing.T) {
	for _, x := range changes(right()) {
		c := right()
		copied := conf.Copy(c)
		isSame(t, "a copy", copied, c, true)
		x.turn(&copied)
		isSame(t, "the first one, where of its copy is changed "+x.name, c, right(), true)
		copied = conf.Copy(c)
		x.turn(&c)
		isSame(t, "a copy, where of the first one is changed "+x.name, copied, right(), true)
		if fmt.Sprint(copied) != fmt.Sprint(right()) {
			t.Errorf("a copy, where of the first one is changed %s: %v", x.name, copied)
		}
	}
}

func TestCopyOfAnySystem(t *testing.T) {
	r := rand.New(rand.NewSource(122))
	for i := range 1000 {
		c := made(r, []int{5, 50, 500}[i%3])
		copied := conf.Copy(c)
		isSame(t, fmt.Sprint("the made system ", i, " and its copy"), copied, c, true)
		if fmt.Sprint(copied) != fmt.Sprint(c) {
			t.Errorf("the made system %d: its copy is %v, not %v", i, copied, c)
		}
		isFault(t, fmt.Sprint("the copy of the made system ", i), copied, conf.Check(c))
		other := made(r, 50)
		isSame(t, fmt.Sprint("two made systems ", i), c, other, fmt.Sprint(c) == fmt.Sprint(other))
	}
	long := api.Config{
		Tasks: times(1<<12, api.Task{Code: times(3, halts)}), Lines: times(1<<12, api.Line{Code: times(2, irets)}),
		Sems: times(1<<16, 1), Queues: times(1<<16, -1), Timers: times(1<<16, math.MinInt),
		Mutexes: -1, Table: math.MaxInt, Charge: math.MinInt, Mask: word, Filter: word, Cycle: math.MaxUint64, Count: math.MaxUint64,
	}
	isSame(t, "a long system that may not run", conf.Copy(long), long, true)
	wide := api.Config{Tasks: []api.Task{{Code: times(1<<16, halts)}}, Lines: []api.Line{{Code: times(1<<16, irets)}}}
	isSame(t, "programs that are too long", conf.Copy(wide), wide, true)
}

// placed: where an element of a list lies, and which list it is.
type placed struct {
	at   uintptr
	list string
}

// memories: where the elements of each list of a system lie, and its spare room.
func memories(c *api.Config) []placed {
	return memoriesOf(reflect.ValueOf(c).Elem(), "")
}

func memoriesOf(v reflect.Value, name string) (all []placed) {
	switch v.Kind() {
	case reflect.Struct:
		for i := range v.NumField() {
			all = append(all, memoriesOf(v.Field(i), name+"."+v.Type().Field(i).Name)...)
		}
	case reflect.Slice:
		for i := range v.Len() {
			all = append(all, memoriesOf(v.Index(i), fmt.Sprintf("%s[%d]", name, i))...)
		}
		for i := range v.Cap() {
			all = append(all, placed{v.Slice(0, v.Cap()).Index(i).Addr().Pointer(), name})
		}
	}
	return all
}

func TestListsOfACopyShareNoMemory(t *testing.T) {
	numbers, code := []int{1, 1, 1}, times(3, api.Instr{Op: api.OSelf})
	shared := api.Config{
		Tasks: times(3, api.Task{Offset: 1, Code: code}), Lines: times(3, api.Line{Code: code}),
		Sems: numbers, Queues: numbers, Timers: numbers,
	}
	isFault(t, "one list in many places", shared, none)
	copied := conf.Copy(shared)
	isSame(t, "one list in many places, and its copy", copied, shared, true)
	lain := map[uintptr]string{}
	for _, x := range memories(&shared) {
		lain[x.at] = "the first one's " + x.list
	}
	for _, x := range memories(&copied) {
		if other, ok := lain[x.at]; ok {
			t.Errorf("the copy's %s lies where %s lies", x.list, other)
		}
		lain[x.at] = "the copy's " + x.list
	}
}

func TestWhatIsHandedInStays(t *testing.T) {
	c := roomy()
	before := spare(&c)
	conf.Check(c)
	copied := conf.Copy(c)
	conf.Same(c, copied)
	conf.Same(copied, c)
	copied.Tasks = append(copied.Tasks, api.Task{Level: 77})
	copied.Tasks[0].Code = append(copied.Tasks[0].Code, api.Instr{Op: 77})
	copied.Lines = append(copied.Lines, api.Line{Mem: 77})
	copied.Lines[0].Code = append(copied.Lines[0].Code, api.Instr{Op: 77})
	copied.Sems, copied.Queues, copied.Timers = append(copied.Sems, 77), append(copied.Queues, 77), append(copied.Timers, 77)
	if spare(&c) != before {
		t.Errorf("what was handed in is now %s, not %s", spare(&c), before)
	}
	copied = conf.Copy(c)
	for _, list := range [][]int{c.Sems, c.Queues, c.Timers} {
		list[:cap(list)][len(list)] = 78
	}
	isSame(t, "a copy, where the spare room is changed", copied, roomy(), true)
	isSame(t, "two that differ in spare room alone", c, roomy(), true)
}

// roomy: the system right, with spare room behind each list.
func roomy() api.Config {
	c := right()
	c.Tasks = slices.Grow(c.Tasks, 5)
	for i := range c.Tasks {
		c.Tasks[i].Code = slices.Grow(c.Tasks[i].Code, 5)
	}
	c.Lines = slices.Grow(c.Lines, 5)
	for i := range c.Lines {
		c.Lines[i].Code = slices.Grow(c.Lines[i].Code, 5)
	}
	c.Sems, c.Queues, c.Timers = slices.Grow(c.Sems, 5), slices.Grow(c.Queues, 5), slices.Grow(c.Timers, 5)
	return c
}

// spare: a system as a text, with what stands behind its lists.
func spare(c *api.Config) string {
	text := fmt.Sprint(*c, c.Tasks[:cap(c.Tasks)], c.Lines[:cap(c.Lines)], c.Sems[:cap(c.Sems)], c.Queues[:cap(c.Queues)], c.Timers[:cap(c.Timers)])
	for _, x := range c.Tasks {
		text += fmt.Sprint(x.Code[:cap(x.Code)])
	}
	for _, x := range c.Lines {
		text += fmt.Sprint(x.Code[:cap(x.Code)])
	}
	return text
}
