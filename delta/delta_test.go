package delta_test

import (
	"cmp"
	"fmt"
	"math"
	"math/rand"
	"slices"
	"testing"

	"taffrail/api"
	"taffrail/delta"
)

// longest is the greatest number of ticks that a clock may run for.
const longest = 1<<32 - 1

// noClocks: numbers that no clock has: those next to the bounds, the least and the greatest, and some that a cut to fewer bits would make a clock's.
var noClocks = []int{-1, 256, -2, 257, -255, -256, -257, 511, 512, 1 << 16, 1 << 31, -1 << 31, 1<<31 - 1, 1<<32 - 1, 1 << 32, 1<<32 + 7, -1 << 32, math.MaxInt, math.MaxInt - 1, math.MinInt, math.MinInt + 1, math.MinInt + 7}

// noTicks: the same for ticks.
var noTicks = []int{0, -1, 1 << 32, -2, 1<<32 + 1, 1<<32 + 5, 1 << 33, 1<<33 + 5, -5, -1 << 31, -1 << 32, -1<<32 + 5, 1 << 48, 1<<48 + 5, math.MaxInt, math.MaxInt - 1, math.MinInt, math.MinInt + 1, math.MinInt + 5}

// someTicks: as many as a clock may run for, at the bounds and where numbers of fewer bits end.
var someTicks = []int{1, 2, 3, 5, 127, 128, 255, 256, 1<<15 - 1, 1 << 15, 1<<16 - 1, 1 << 16, 1<<24 + 1, 1<<31 - 1, 1 << 31, 1<<31 + 1, longest - 1, longest}

// errors: those that a call may answer, for what a failing test tells.
var errors = map[api.Errno]string{api.OK: "OK", api.ErrArg: "ErrArg", api.ErrNil: "ErrNil"}

// model is the clocks by the chapter's words: those that run, each with the ticks it has left; those that were put first come first.
type model []api.Due

func (m model) find(id int) int {
	return slices.IndexFunc(m, func(d api.Due) bool { return d.Id == id })
}

func (m *model) put(id, ticks int) api.Errno {
	if id < 0 || id > 255 || ticks < 1 || ticks > longest || m.find(id) >= 0 {
		return api.ErrArg
	}
	*m = append(slices.Clone(*m), api.Due{Id: id, Left: ticks})
	return api.OK
}

func (m *model) cancel(id int) bool {
	at := m.find(id)
	if at < 0 {
		return false
	}
	*m = slices.Delete(slices.Clone(*m), at, at+1)
	return true
}

func (m *model) tick() []int {
	var left model
	var over []int
	for _, d := range *m {
		if d.Left--; d.Left == 0 {
			over = append(over, d.Id)
		} else {
			left = append(left, d)
		}
	}
	*m = left
	return over
}

func (m model) dues() []api.Due {
	l := slices.Clone(m)
	slices.SortStableFunc(l, func(a, b api.Due) int { return cmp.Compare(a.Left, b.Left) })
	return l
}

// shows: fails, unless the list tells these clocks, in this order, whatever it is asked.
func shows(t *testing.T, l *delta.List, want ...api.Due) {
	t.Helper()
	if got := l.Dues(); !slices.Equal(got, want) {
		t.Fatalf("Dues: %v, not %v", got, want)
	}
	var left [256]int
	for _, d := range want {
		left[d.Id] = d.Left
	}
	for id := range left {
		if got := l.Left(id); got != left[id] {
			t.Fatalf("Left(%d): %d, not %d, by %v", id, got, left[id], want)
		}
	}
	from := 0
	for id := 256; id >= -1; id-- {
		if id >= 0 && id < 256 && left[id] > 0 {
			from++
		}
		if got := l.From(id); got != from {
			t.Fatalf("From(%d): %d, not %d, by %v", id, got, from, want)
		}
	}
}

// The calls that may change something, as a test tells them.
const (
	put = iota
	cancel
	tick
)

// call is one of them; ticks mean something to put alone, and id nothing to tick.
type call struct{ kind, id, ticks int }

// text: as a failing test tells it.
func (c call) text() string {
	switch c.kind {
	case put:
		return fmt.Sprintf("Put(%d, %d)", c.id, c.ticks)
	case cancel:
		return fmt.Sprintf("Cancel(%d)", c.id)
	}
	return "Tick()"
}

// both are a list and its model, which are told the same.
type both struct {
	l delta.List
	m model
}

// tell: a call, to both; what each of them answers.
func (b *both) tell(c call) (got, want string) {
	switch c.kind {
	case put:
		return errors[b.l.Put(c.id, c.ticks)], errors[b.m.put(c.id, c.ticks)]
	case cancel:
		return fmt.Sprint(b.l.Cancel(c.id)), fmt.Sprint(b.m.cancel(c.id))
	}
	return fmt.Sprint(b.l.Tick()), fmt.Sprint(b.m.tick())
}

// does: fails, unless both answer the same to the call.
func (b *both) does(t *testing.T, c call) {
	t.Helper()
	before := b.m.dues()
	if got, want := b.tell(c); got != want {
		t.Fatalf("%s: %s, not %s, from %v", c.text(), got, want, before)
	}
}

// do: fails, unless both answer the same to the call, and show the same then.
func (b *both) do(t *testing.T, c call) {
	t.Helper()
	b.does(t, c)
	shows(t, &b.l, b.m.dues()...)
}

// puts: fails, unless Put answers so.
func puts(t *testing.T, l *delta.List, id, ticks int, want api.Errno) {
	t.Helper()
	if err := l.Put(id, ticks); err != want {
		t.Errorf("Put(%d, %d): %s, not %s", id, ticks, errors[err], errors[want])
	}
}

// cancels: fails, unless Cancel answers so.
func cancels(t *testing.T, l *delta.List, id int, want bool) {
	t.Helper()
	if got := l.Cancel(id); got != want {
		t.Errorf("Cancel(%d): %v, not %v", id, got, want)
	}
}

// ticks: fails, unless just these are over by the tick.
func ticks(t *testing.T, l *delta.List, want ...int) {
	t.Helper()
	if got := l.Tick(); !slices.Equal(got, want) {
		t.Errorf("Tick: %d, not %d", got, want)
	}
}

// made: a list and its model, to which these clocks were put in this order.
func made(t *testing.T, clocks []api.Due) *both {
	t.Helper()
	b := &both{}
	for _, d := range clocks {
		b.does(t, call{put, d.Id, d.Left})
	}
	shows(t, &b.l, b.m.dues()...)
	return b
}

// cleared: it ticks till all are over, or, if that were too long, they are cancelled from the last one on.
func (b *both) cleared(t *testing.T) {
	t.Helper()
	for range 12 {
		b.do(t, call{kind: tick})
	}
	for dues := b.m.dues(); len(dues) > 0; dues = dues[:len(dues)-1] {
		b.does(t, call{cancel, dues[len(dues)-1].Id, 0})
	}
	shows(t, &b.l)
}

// all: all clocks, from one on in steps of so many, each with the ticks that a rule says.
func all(first, step int, ticks func(k int) int) []api.Due {
	var clocks []api.Due
	for k := range 256 {
		clocks = append(clocks, api.Due{Id: (first + k*step) & 255, Left: ticks(k)})
	}
	return clocks
}

// same: the same ticks for all.
func same(ticks int) func(int) int { return func(int) int { return ticks } }

// several: clocks that were put in no order, some of which are over by the same tick.
func several() []api.Due {
	return []api.Due{{Id: 40, Left: 6}, {Id: 0, Left: 2}, {Id: 255, Left: 9}, {Id: 7, Left: 6}, {Id: 9, Left: 2}, {Id: 12, Left: longest}, {Id: 1, Left: 6}, {Id: 8, Left: 3}, {Id: 254, Left: 9}}
}

// severalDues: these in order.
func severalDues() []api.Due {
	return []api.Due{{Id: 0, Left: 2}, {Id: 9, Left: 2}, {Id: 8, Left: 3}, {Id: 40, Left: 6}, {Id: 7, Left: 6}, {Id: 1, Left: 6}, {Id: 255, Left: 9}, {Id: 254, Left: 9}, {Id: 12, Left: longest}}
}

// fewClocks: what most tests begin with.
func fewClocks() [][]api.Due {
	return [][]api.Due{
		nil,
		{{Id: 0, Left: 1}},
		{{Id: 255, Left: longest}},
		{{Id: 7, Left: 4}, {Id: 6, Left: 4}},
		{{Id: 6, Left: 1}, {Id: 7, Left: 2}, {Id: 8, Left: 3}},
		{{Id: 6, Left: 3}, {Id: 7, Left: 2}, {Id: 8, Left: 1}},
		{{Id: 0, Left: longest}, {Id: 1, Left: longest - 1}, {Id: 2, Left: longest}, {Id: 3, Left: 1}},
		{{Id: 3, Left: 5}, {Id: 200, Left: 5}, {Id: 2, Left: 5}, {Id: 201, Left: 5}},
		several(),
	}
}

// manyClocks: these, and all clocks at once.
func manyClocks() [][]api.Due {
	return append(fewClocks(),
		all(0, 1, same(3)),
		all(255, 255, same(longest)),
		all(3, 77, func(k int) int { return 1 + k%10 }),
		all(9, 5, func(k int) int { return longest - k }))
}

func TestNumbersOfTheDocument(t *testing.T) {
	if api.OK != 0 || api.ErrArg != 1 || api.ErrNil != 16 {
		t.Fatal("the errors aren't those of the document")
	}
}

func TestExamplesOfTheChapter(t *testing.T) {
	var l delta.List
	puts(t, &l, 7, 2, api.OK)
	puts(t, &l, 3, 1, api.OK)
	puts(t, &l, 5, 2, api.OK)
	shows(t, &l, api.Due{Id: 3, Left: 1}, api.Due{Id: 7, Left: 2}, api.Due{Id: 5, Left: 2})
	ticks(t, &l, 3)
	puts(t, &l, 9, 1, api.OK)
	shows(t, &l, api.Due{Id: 7, Left: 1}, api.Due{Id: 5, Left: 1}, api.Due{Id: 9, Left: 1})
	ticks(t, &l, 7, 5, 9)
	shows(t, &l)
}

// P15.1

// TestPut: each clock alone, with the ticks at the edges.
func TestPut(t *testing.T) {
	for _, n := range someTicks {
		var l delta.List
		for id := range 256 {
			puts(t, &l, id, n, api.OK)
			shows(t, &l, api.Due{Id: id, Left: n})
			cancels(t, &l, id, true)
		}
		shows(t, &l)
	}
}

// TestPutAtEachPlace: ahead of all others, between each two, at the end, and behind those with the same ticks.
func TestPutAtEachPlace(t *testing.T) {
	for _, c := range []struct{ ticks, place int }{{1, 0}, {2, 2}, {3, 3}, {4, 3}, {5, 3}, {6, 6}, {7, 6}, {8, 6}, {9, 8}, {10, 8}, {1 << 31, 8}, {longest - 1, 8}, {longest, 9}} {
		b := made(t, several())
		puts(t, &b.l, 100, c.ticks, api.OK)
		shows(t, &b.l, slices.Insert(severalDues(), c.place, api.Due{Id: 100, Left: c.ticks})...)
		b.m.put(100, c.ticks)
		b.do(t, call{put, 101, c.ticks})
		b.do(t, call{put, 99, c.ticks})
		b.cleared(t)
	}
}

// TestPutInOrder: clocks with the same ticks stand as they were put, whatever their numbers are.
func TestPutInOrder(t *testing.T) {
	for _, order := range [][]int{{0, 1, 2, 3}, {3, 2, 1, 0}, {255, 0, 254, 1}, {17, 200, 16, 199, 18}} {
		for _, n := range someTicks {
			for _, others := range [][]api.Due{nil, {{Id: 80, Left: 1}}, {{Id: 80, Left: longest}}, {{Id: 80, Left: n}, {Id: 81, Left: 1}}} {
				b := made(t, others)
				for _, id := range order {
					b.do(t, call{put, id, n})
				}
				var got []int
				for _, d := range b.l.Dues() {
					if d.Id != 80 && d.Id != 81 {
						got = append(got, d.Id)
					}
				}
				if !slices.Equal(got, order) {
					t.Fatalf("with %d ticks each they stand as %d, not %d", n, got, order)
				}
			}
		}
	}
}

// TestSameTickAtOtherTimes: what is put later, with fewer ticks, so that it is over by the same tick, stands behind.
func TestSameTickAtOtherTimes(t *testing.T) {
	var l delta.List
	puts(t, &l, 50, 4, api.OK)
	ticks(t, &l)
	puts(t, &l, 20, 3, api.OK)
	ticks(t, &l)
	puts(t, &l, 90, 3, api.OK)
	puts(t, &l, 60, 2, api.OK)
	ticks(t, &l)
	puts(t, &l, 10, 1, api.OK)
	shows(t, &l, api.Due{Id: 50, Left: 1}, api.Due{Id: 20, Left: 1}, api.Due{Id: 60, Left: 1}, api.Due{Id: 10, Left: 1}, api.Due{Id: 90, Left: 2})
	ticks(t, &l, 50, 20, 60, 10)
	ticks(t, &l, 90)
	ticks(t, &l)
}

// TestPutOfWrongNumbers: no clock, no ticks, or both: ErrArg, and all clocks are as they were.
func TestPutOfWrongNumbers(t *testing.T) {
	for _, clocks := range manyClocks() {
		b := made(t, clocks)
		for _, id := range noClocks {
			for _, n := range []int{1, 5, longest} {
				puts(t, &b.l, id, n, api.ErrArg)
			}
			for _, n := range noTicks {
				puts(t, &b.l, id, n, api.ErrArg)
			}
		}
		shows(t, &b.l, b.m.dues()...)
		for _, n := range noTicks {
			for _, id := range []int{0, 1, 7, 100, 255} {
				puts(t, &b.l, id, n, api.ErrArg)
			}
		}
		shows(t, &b.l, b.m.dues()...)
		b.cleared(t)
	}
}

// TestPutOfOneThatRuns: with the same ticks, with others, and with none: ErrArg, and all clocks are as they were.
func TestPutOfOneThatRuns(t *testing.T) {
	for _, clocks := range manyClocks() {
		b := made(t, clocks)
		for _, d := range clocks {
			for _, n := range []int{d.Left, d.Left - 1, d.Left + 1, 1, 6, longest, 0, -1, longest + 1, math.MaxInt, math.MinInt} {
				puts(t, &b.l, d.Id, n, api.ErrArg)
			}
		}
		shows(t, &b.l, b.m.dues()...)
		b.cleared(t)
	}
}

// TestAllAtOnce: no clock can be put any more; each that is cancelled can.
func TestAllAtOnce(t *testing.T) {
	for _, clocks := range manyClocks()[len(fewClocks()):] {
		b := made(t, clocks)
		if n := len(b.l.Dues()); n != 256 || b.l.From(0) != 256 {
			t.Fatalf("%d run, and %d from 0 on", n, b.l.From(0))
		}
		for id := -1; id < 257; id++ {
			puts(t, &b.l, id, 5, api.ErrArg)
		}
		for _, id := range []int{0, 255, 100} {
			b.do(t, call{cancel, id, 0})
			b.do(t, call{put, id, 3})
			b.do(t, call{put, id, 3})
		}
		b.cleared(t)
	}
}

// TestCancel: each number, from all clocks on, and once more; with those that run no more, all others stay.
func TestCancel(t *testing.T) {
	for _, clocks := range fewClocks() {
		for id := range 256 {
			b := made(t, clocks)
			runs := slices.ContainsFunc(clocks, func(d api.Due) bool { return d.Id == id })
			cancels(t, &b.l, id, runs)
			b.m.cancel(id)
			shows(t, &b.l, b.m.dues()...)
			b.do(t, call{cancel, id, 0})
			if runs {
				b.cleared(t)
			}
		}
	}
}

// TestCancelWrittenOut: of the first, each middle and the last one, others with the same ticks among them.
func TestCancelWrittenOut(t *testing.T) {
	for place, d := range severalDues() {
		b := made(t, several())
		cancels(t, &b.l, d.Id, true)
		shows(t, &b.l, slices.Delete(severalDues(), place, place+1)...)
	}
	b := made(t, several())
	for _, id := range []int{12, 0, 7, 8} {
		cancels(t, &b.l, id, true)
	}
	cancels(t, &b.l, 100, false)
	shows(t, &b.l, api.Due{Id: 9, Left: 2}, api.Due{Id: 40, Left: 6}, api.Due{Id: 1, Left: 6}, api.Due{Id: 255, Left: 9}, api.Due{Id: 254, Left: 9})
}

// TestCancelAll: one behind the other, in several orders.
func TestCancelAll(t *testing.T) {
	for _, clocks := range manyClocks() {
		for _, step := range []int{1, 255, 37} {
			b := made(t, clocks)
			for k := range 256 {
				b.does(t, call{cancel, (k*step + 9) & 255, 0})
				if k%16 == 0 {
					shows(t, &b.l, b.m.dues()...)
				}
			}
			shows(t, &b.l)
			ticks(t, &b.l)
		}
	}
}

// TestCancelOfNoClock: it runs not, and all are as they were.
func TestCancelOfNoClock(t *testing.T) {
	for _, clocks := range manyClocks() {
		b := made(t, clocks)
		for _, id := range noClocks {
			cancels(t, &b.l, id, false)
		}
		shows(t, &b.l, b.m.dues()...)
		b.cleared(t)
	}
}

// TestCancelledAndPutAgain: it stands behind those with the same ticks, whichever place it had.
func TestCancelledAndPutAgain(t *testing.T) {
	for _, clocks := range fewClocks() {
		for _, d := range clocks {
			for _, n := range []int{d.Left, 1, 2, 6, longest} {
				b := made(t, clocks)
				b.do(t, call{cancel, d.Id, 0})
				b.do(t, call{put, d.Id, n})
				b.do(t, call{put, d.Id, n})
				b.cleared(t)
			}
		}
	}
}

// TestOverAndPutAgain: by the tick that it was over, it stands behind those that run.
func TestOverAndPutAgain(t *testing.T) {
	var l delta.List
	puts(t, &l, 4, 1, api.OK)
	puts(t, &l, 5, 3, api.OK)
	ticks(t, &l, 4)
	cancels(t, &l, 4, false)
	puts(t, &l, 4, 2, api.OK)
	shows(t, &l, api.Due{Id: 5, Left: 2}, api.Due{Id: 4, Left: 2})
	puts(t, &l, 4, 2, api.ErrArg)
	ticks(t, &l)
	ticks(t, &l, 5, 4)
	puts(t, &l, 5, longest, api.OK)
	puts(t, &l, 4, longest, api.OK)
	shows(t, &l, api.Due{Id: 5, Left: longest}, api.Due{Id: 4, Left: longest})
	for _, clocks := range fewClocks() {
		b := made(t, clocks)
		for range 20 {
			for _, id := range b.l.Tick() {
				b.l.Put(id, 1+id%4)
			}
			for _, id := range b.m.tick() {
				b.m.put(id, 1+id%4)
			}
			shows(t, &b.l, b.m.dues()...)
		}
		b.cleared(t)
	}
}

// P15.2

// TestTick: one clock, till it is over by its last tick and not by one ahead; then it runs no more.
func TestTick(t *testing.T) {
	for id := range 256 {
		for n := 1; n < 6; n++ {
			var l delta.List
			puts(t, &l, id, n, api.OK)
			for left := n - 1; left > 0; left-- {
				ticks(t, &l)
				shows(t, &l, api.Due{Id: id, Left: left})
			}
			ticks(t, &l, id)
			shows(t, &l)
			ticks(t, &l)
		}
	}
}

func TestTickWrittenOut(t *testing.T) {
	b := made(t, several())
	overs := [][]int{nil, {0, 9}, {8}, nil, nil, {40, 7, 1}, nil, nil, {255, 254}, nil, nil}
	left := severalDues()
	for _, over := range overs {
		ticks(t, &b.l, over...)
		left = left[len(over):]
		for k := range left {
			left[k].Left--
		}
		shows(t, &b.l, left...)
	}
	cancels(t, &b.l, 12, true)
	ticks(t, &b.l)
	shows(t, &b.l)
}

// TestTickWithNone: behind which clocks run as long as they do without.
func TestTickWithNone(t *testing.T) {
	var l delta.List
	for range 5 {
		ticks(t, &l)
		shows(t, &l)
	}
	puts(t, &l, 3, 2, api.OK)
	ticks(t, &l)
	ticks(t, &l, 3)
	for range 5 {
		ticks(t, &l)
	}
	puts(t, &l, 3, 1, api.OK)
	shows(t, &l, api.Due{Id: 3, Left: 1})
	ticks(t, &l, 3)
}

// TestTickOfAll: all clocks, by one tick, and some by each.
func TestTickOfAll(t *testing.T) {
	var order []int
	for _, d := range all(3, 77, same(1)) {
		order = append(order, d.Id)
	}
	for _, n := range []int{1, 2, 3} {
		b := made(t, all(3, 77, same(n)))
		for range n - 1 {
			ticks(t, &b.l)
		}
		ticks(t, &b.l, order...)
		shows(t, &b.l)
	}
	b := made(t, all(3, 77, func(k int) int { return 1 + k%10 }))
	for k := range 10 {
		var over []int
		for at := k; at < 256; at += 10 {
			over = append(over, order[at])
		}
		ticks(t, &b.l, over...)
	}
	shows(t, &b.l)
}

// TestTickBehindEachCancel: each clock is cancelled behind some ticks, and then it ticks on.
func TestTickBehindEachCancel(t *testing.T) {
	for _, clocks := range fewClocks() {
		for _, d := range clocks {
			for before := range 10 {
				b := made(t, clocks)
				for range before {
					b.do(t, call{kind: tick})
				}
				b.do(t, call{cancel, d.Id, 0})
				b.cleared(t)
			}
		}
	}
}

// TestLongTicks: many of them, of clocks that have the most.
func TestLongTicks(t *testing.T) {
	var l delta.List
	puts(t, &l, 1, longest, api.OK)
	puts(t, &l, 2, 1<<31, api.OK)
	puts(t, &l, 3, 70000, api.OK)
	for range 69999 {
		if over := l.Tick(); len(over) != 0 {
			t.Fatalf("%d are over", over)
		}
	}
	puts(t, &l, 4, longest, api.OK)
	ticks(t, &l, 3)
	shows(t, &l, api.Due{Id: 2, Left: 1<<31 - 70000}, api.Due{Id: 1, Left: longest - 70000}, api.Due{Id: 4, Left: longest - 1})
	cancels(t, &l, 2, true)
	puts(t, &l, 3, longest-70000, api.OK)
	shows(t, &l, api.Due{Id: 1, Left: longest - 70000}, api.Due{Id: 3, Left: longest - 70000}, api.Due{Id: 4, Left: longest - 1})
}

// TestLeftOfOthers: of numbers that no clock has it is 0, and of those that don't run.
func TestLeftOfOthers(t *testing.T) {
	for _, clocks := range manyClocks() {
		b := made(t, clocks)
		for _, id := range noClocks {
			if left := b.l.Left(id); left != 0 {
				t.Errorf("Left(%d): %d", id, left)
			}
		}
		shows(t, &b.l, b.m.dues()...)
	}
	b := made(t, several())
	for id, want := range map[int]int{0: 2, 1: 6, 2: 0, 7: 6, 8: 3, 9: 2, 10: 0, 12: longest, 13: 0, 40: 6, 253: 0, 254: 9, 255: 9} {
		if left := b.l.Left(id); left != want {
			t.Errorf("Left(%d): %d, not %d", id, left, want)
		}
	}
}

// TestFrom: from any number on, those below 0 and above 255 too.
func TestFrom(t *testing.T) {
	b := made(t, several())
	for _, c := range []struct{ id, n int }{{0, 9}, {1, 8}, {2, 7}, {7, 7}, {8, 6}, {9, 5}, {10, 4}, {12, 4}, {13, 3}, {40, 3}, {41, 2}, {254, 2}, {255, 1}, {256, 0}, {-1, 9}} {
		if n := b.l.From(c.id); n != c.n {
			t.Errorf("From(%d): %d, not %d", c.id, n, c.n)
		}
	}
	for _, clocks := range manyClocks() {
		b := made(t, clocks)
		for _, id := range noClocks {
			want := 0
			if id < 0 {
				want = len(clocks)
			}
			if n := b.l.From(id); n != want {
				t.Errorf("From(%d): %d, not %d", id, n, want)
			}
		}
		shows(t, &b.l, b.m.dues()...)
	}
}

// TestAnswersAreTheCallers: what it does to them, to their spare room too, changes neither the list nor any other answer.
func TestAnswersAreTheCallers(t *testing.T) {
	for _, clocks := range manyClocks() {
		b := made(t, clocks)
		for range 12 {
			dues, again := b.l.Dues(), b.l.Dues()
			want := b.m.dues()
			dues = dues[:cap(dues)]
			for k := range dues {
				dues[k] = api.Due{Id: 3, Left: -9}
			}
			if !slices.Equal(again, want) {
				t.Fatalf("Dues: %v, not %v", again, want)
			}
			shows(t, &b.l, want...)
			over, wantOver := b.l.Tick(), b.m.tick()
			if !slices.Equal(over, wantOver) || !slices.Equal(again, want) {
				t.Fatalf("Tick: %d, not %d; Dues: %v, not %v", over, wantOver, again, want)
			}
			over = over[:cap(over)]
			for k := range over {
				over[k] = -9
			}
			shows(t, &b.l, b.m.dues()...)
		}
		b.cleared(t)
	}
}

// TestAnswersStay: what was answered stays as it is, whatever is told then.
func TestAnswersStay(t *testing.T) {
	b := made(t, append(several(), api.Due{Id: 77, Left: 1}, api.Due{Id: 78, Left: 1}))
	over, dues := b.l.Tick(), b.l.Dues()
	b.m.tick()
	want := b.m.dues()
	random := rand.New(rand.NewSource(5))
	for range 300 {
		b.do(t, anyCall(random, 20, 4))
	}
	if !slices.Equal(over, []int{77, 78}) || !slices.Equal(dues, want) {
		t.Errorf("the answers are %d and %v by now", over, dues)
	}
}

// TestAskedOnly: Left, Dues and From change nothing.
func TestAskedOnly(t *testing.T) {
	for _, clocks := range manyClocks() {
		b := made(t, clocks)
		for range 3 {
			b.l.Left(7)
			b.l.Dues()
			b.l.From(7)
			shows(t, &b.l, b.m.dues()...)
		}
		b.cleared(t)
	}
}

// P15.3

func TestZeroValue(t *testing.T) {
	var l delta.List
	shows(t, &l)
	for id := -2; id < 258; id++ {
		cancels(t, &l, id, false)
	}
	for _, id := range noClocks {
		cancels(t, &l, id, false)
		if l.Left(id) != 0 || l.From(id) != 0 {
			t.Errorf("%d has %d left, and from it on %d run", id, l.Left(id), l.From(id))
		}
	}
	ticks(t, &l)
	shows(t, &l)
	puts(t, new(delta.List), 0, 1, api.OK)
	puts(t, &delta.List{}, 255, longest, api.OK)
}

func TestNil(t *testing.T) {
	var l *delta.List
	numbers := slices.Concat(noClocks, noTicks, []int{0, 1, 7, 100, 255, longest})
	for range 2 {
		for _, id := range numbers {
			for _, n := range numbers {
				puts(t, l, id, n, api.ErrNil)
			}
			cancels(t, l, id, false)
			if l.Left(id) != 0 || l.From(id) != 0 {
				t.Errorf("%d has %d left, and from it on %d run", id, l.Left(id), l.From(id))
			}
		}
		ticks(t, l)
		if dues := l.Dues(); len(dues) != 0 {
			t.Errorf("Dues: %v", dues)
		}
	}
}

// P15.4

// without: the dues of all clocks but one.
func without(dues []api.Due, id int) []api.Due {
	return slices.DeleteFunc(slices.Clone(dues), func(d api.Due) bool { return d.Id == id })
}

// TestOthersStay: whatever is told of one clock, all others have the same ticks, and the same order.
func TestOthersStay(t *testing.T) {
	for _, clocks := range fewClocks() {
		for _, id := range []int{0, 3, 7, 8, 12, 100, 255} {
			b := made(t, without(clocks, id))
			others := b.l.Dues()
			for _, n := range slices.Concat(someTicks, noTicks) {
				b.l.Put(id, n)
				if got := without(b.l.Dues(), id); !slices.Equal(got, others) {
					t.Fatalf("behind Put(%d, %d) the others are %v, not %v", id, n, got, others)
				}
				b.l.Cancel(id)
				shows(t, &b.l, others...)
			}
		}
	}
}

// TestOthersGoOn: with a clock that is put, cancelled, or over, the others are over by the same ticks as without it.
func TestOthersGoOn(t *testing.T) {
	for _, clocks := range fewClocks() {
		for n := 1; n < 12; n++ {
			for last := range 12 {
				b, c := made(t, without(clocks, 100)), made(t, without(clocks, 100))
				b.l.Put(100, n)
				for k := range 12 {
					if k == last {
						b.l.Cancel(100)
					}
					got := slices.DeleteFunc(b.l.Tick(), func(id int) bool { return id == 100 })
					if want := c.l.Tick(); !slices.Equal(got, want) {
						t.Fatalf("with a clock of %d ticks, cancelled behind %d, tick %d: %d, not %d", n, last, k, got, want)
					}
				}
				shows(t, &c.l, without(b.l.Dues(), 100)...)
			}
		}
	}
}

// TestTwoLists: what the one is told, the other one isn't.
func TestTwoLists(t *testing.T) {
	b, c := made(t, several()), made(t, all(3, 77, func(k int) int { return 1 + k%10 }))
	random := rand.New(rand.NewSource(3))
	for range 1500 {
		d := b
		if random.Intn(2) == 0 {
			d = c
		}
		d.do(t, anyCall(random, 256, 40))
		shows(t, &b.l, b.m.dues()...)
		shows(t, &c.l, c.m.dues()...)
	}
	b.cleared(t)
	shows(t, &c.l, c.m.dues()...)
	c.cleared(t)
}

// All of it, against the chapter's words

// anyCall: a call of a clock below the one, and of up to so many ticks; now and then of numbers at the edges, or beyond.
func anyCall(random *rand.Rand, clocks, most int) call {
	c := call{random.Intn(3), random.Intn(clocks), 1 + random.Intn(most)}
	switch random.Intn(30) {
	case 0:
		c.id = noClocks[random.Intn(len(noClocks))]
	case 1:
		c.ticks = noTicks[random.Intn(len(noTicks))]
	case 2:
		c.ticks = someTicks[random.Intn(len(someTicks))]
	}
	return c
}

// TestEachRun: all runs of so many calls, of few clocks and ticks.
func TestEachRun(t *testing.T) {
	for _, c := range []struct {
		clocks, ticks []int
		length        int
	}{{[]int{0, 255}, []int{1, 2}, 5}, {[]int{8, 7, 9}, []int{2}, 5}, {[]int{0, 1}, []int{1, 2, 3, longest}, 4}, {[]int{3, 2, 1}, []int{1, 3, 2}, 3}} {
		calls := []call{{kind: tick}}
		for _, id := range c.clocks {
			calls = append(calls, call{cancel, id, 0})
			for _, n := range c.ticks {
				calls = append(calls, call{put, id, n})
			}
		}
		eachRun(t, calls, c.length, nil)
	}
}

// eachRun: all runs of so many of these calls, behind those that were told already; what they show is asked at their ends alone.
func eachRun(t *testing.T, calls []call, length int, run []call) {
	t.Helper()
	b := both{}
	for _, c := range run {
		if got, want := b.tell(c); got != want {
			t.Fatalf("%s: %s, not %s, at the end of %v", c.text(), got, want, run)
		}
	}
	shows(t, &b.l, b.m.dues()...)
	if len(run) == length {
		return
	}
	for _, c := range calls {
		eachRun(t, calls, length, append(slices.Clone(run), c))
	}
}

// TestMadeRuns: long ones, of few clocks and of all, with few ticks and with many.
func TestMadeRuns(t *testing.T) {
	for seed, c := range []struct{ clocks, most int }{{1, 3}, {2, 3}, {5, 2}, {8, 6}, {30, 10}, {30, 60}, {256, 5}, {256, 40}, {256, 400}, {256, longest}, {20, longest}} {
		random := rand.New(rand.NewSource(int64(seed)))
		b := &both{}
		for range 1500 {
			b.do(t, anyCall(random, c.clocks, c.most))
		}
		b.cleared(t)
	}
}

// TestRunsThatFillAndEmpty: a long time most calls put clocks, then most cancel them, then most are ticks.
func TestRunsThatFillAndEmpty(t *testing.T) {
	random := rand.New(rand.NewSource(99))
	b := &both{}
	for k := range 6000 {
		c := anyCall(random, 256, 300)
		if random.Intn(4) > 0 {
			c.kind = []int{put, cancel, put, tick}[k/500%4]
		}
		b.do(t, c)
	}
	b.cleared(t)
}
