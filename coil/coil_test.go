package coil_test

import (
	"encoding/binary"
	"math"
	"math/big"
	"slices"
	"strings"
	"testing"

	"taffrail/api"
	"taffrail/coil"
	"taffrail/cursor"
	"taffrail/event"
	"taffrail/leb"
)

const (
	greatest = math.MaxUint64
	word     = math.MaxUint32
)

// right: an event that can be of each kind, in their order, without stamps.
var right = []api.Event{
	{Kind: api.EIrq, A: 15, B: 1},
	{Kind: api.EDev, A: 2, B: 79, V: word},
	{Kind: api.EEnter, A: 3},
	{Kind: api.EExit, A: 15},
	{Kind: api.ESwitch, A: 255, B: 63},
	{Kind: api.ERelease, A: 63, V: 300},
	{Kind: api.ELate, A: 4, V: 255},
	{Kind: api.EEnd, A: 5, V: word},
	{Kind: api.EBlock, A: 6, B: 159},
	{Kind: api.EWake, A: 7, B: 1},
	{Kind: api.ELevel, A: 8, B: 31},
	{Kind: api.ELock, A: 9, B: 30},
	{Kind: api.EUnlock, A: 10, B: 29},
	{Kind: api.EPost, A: 80, B: 28, V: 128},
	{Kind: api.ETake, A: 11, B: 27, V: 127},
	{Kind: api.ESend, A: 64, B: 26, V: 1 << 31},
	{Kind: api.ERecv, A: 65, B: 25, V: 1<<28 - 1},
	{Kind: api.ETimer, A: 31},
	{Kind: api.EArm, A: 66, B: 24, V: 1 << 28},
	{Kind: api.EOut, A: 14, B: 67, V: 0},
	{Kind: api.EFault, A: 68, B: 16},
	{Kind: api.EHalt, A: 12},
	{Kind: api.ERefuse, A: 80, B: 15, V: 38},
	{Kind: api.EClose},
}

// wrong: events that can't be.
var wrong = []api.Event{
	{},
	{Kind: -1},
	{Kind: 25},
	{Kind: 256 + api.EClose},
	{Kind: math.MaxInt},
	{Kind: math.MinInt},
	{Kind: api.EHalt, A: 64},
	{Kind: api.ESwitch, A: 1, B: 1},
	{Kind: api.EIrq, A: 1, B: 2},
	{Kind: api.ELate, A: 1},
	{Kind: api.ELate, A: 1, V: 256},
	{Kind: api.EClose, A: 1},
	{Kind: api.EHalt, A: 1, B: 1},
	{Kind: api.EHalt, A: 1, V: 1},
}

// countSteps and drifts that can be told: the named edges, those beside them, and where one more byte is needed.
var (
	countSteps = []uint64{0, 1, 127, 128, 1 << 31, word - 1, word}
	drifts     = []int64{math.MinInt32, math.MinInt32 + 1, -65, -64, -1, 0, 1, 63, 64, math.MaxInt32 - 1, math.MaxInt32}
)

// stamps: counts and cycles at the edges: of 64 bits, of 32 and 31, and sums of these.
var stamps = []uint64{
	0, 1, 2, 1<<31 - 1, 1 << 31, 1<<31 + 1, 1<<32 - 2, 1<<32 - 1, 1 << 32, 1<<32 + 1, 3<<31 - 2, 3<<31 - 1, 3 << 31, 1<<33 - 2, 1<<33 - 1,
	1<<63 - 1, 1 << 63, 1<<63 + 1<<31, greatest - 1<<33, greatest - 3<<31, greatest - 1<<32, greatest - 1<<32 + 1, greatest - 1<<31, greatest - 1, greatest,
}

// inTurn: an event of each kind, each one behind the one ahead.
func inTurn() []api.Event {
	var l []api.Event
	for k, e := range right {
		l = append(l, at(e, 100*uint64(k), 90*uint64(k)))
	}
	return l
}

// at: the event with these stamps.
func at(e api.Event, count, cycle uint64) api.Event {
	e.Count, e.Cycle = count, cycle
	return e
}

// whole: a number without bounds.
func whole(n uint64) *big.Int { return new(big.Int).SetUint64(n) }

// told: the steps by the chapter's words, and whether they can be told.
func told(before, e api.Event) (step, drift *big.Int, ok bool) {
	step = new(big.Int).Sub(whole(e.Count), whole(before.Count))
	growth := new(big.Int).Sub(whole(e.Cycle), whole(before.Cycle))
	drift = new(big.Int).Sub(growth, step)
	ok = step.Sign() >= 0 && growth.Sign() >= 0 && step.Cmp(big.NewInt(1<<32)) < 0 &&
		drift.Cmp(big.NewInt(-1<<31)) >= 0 && drift.Cmp(big.NewInt(1<<31-1)) <= 0
	return step, drift, ok
}

// spelling: an event's bytes behind another one, by the chapter's words, or the error.
func spelling(before, e api.Event) ([]byte, api.Errno) {
	if event.Check(e) != api.OK {
		return nil, api.ErrForm
	}
	step, drift, ok := told(before, e)
	if !ok {
		return nil, api.ErrRange
	}
	b := []byte{byte(e.Kind)}
	b = binary.AppendUvarint(b, step.Uint64())
	b = binary.AppendVarint(b, drift.Int64())
	a, hasB, v := event.Fields(e.Kind)
	for k, has := range []bool{a, hasB, v} {
		if has {
			b = binary.AppendUvarint(b, uint64([]uint32{e.A, e.B, e.V}[k]))
		}
	}
	return b, api.OK
}

// printed: what Print must answer.
func printed(l []api.Event) (string, api.Errno) {
	var all []byte
	for k, e := range l {
		b, err := spelling(l[max(0, k-1)], e)
		if err != api.OK {
			return "", err
		}
		all = append(all, b...)
	}
	return string(all), api.OK
}

// holdPrint: Print and Size answer what they must.
func holdPrint(t *testing.T, l ...api.Event) {
	t.Helper()
	want, wantErr := printed(l)
	if got, err := coil.Print(l); got != want || err != wantErr {
		t.Fatalf("Print(%v): % x, error %d; want % x, error %d", l, got, err, want, wantErr)
	}
	for k, e := range l {
		before := l[max(0, k-1)]
		b, _ := spelling(before, e)
		if got := coil.Size(before, e); got != len(b) {
			t.Fatalf("Size(%v, %v): %d, want %d", before, e, got, len(b))
		}
	}
}

// model: what Read must answer, by the chapter's words.
func model(cycle, count uint64, s string) ([]api.Event, api.Errno) {
	var l []api.Event
	nowCount, nowCycle := whole(count), whole(cycle)
	for r := cursor.New(s); r.Left() > 0; {
		kind, _ := r.Byte()
		if kind < 1 || kind > 24 {
			return nil, api.ErrArg
		}
		a, b, v := event.Fields(int(kind))
		var n [5]uint64
		for k, has := range []bool{true, true, a, b, v} {
			if !has {
				continue
			}
			var err api.Errno
			if n[k], err = leb.Most(r, word); err != api.OK {
				return nil, err
			}
		}
		drift := leb.Unfold(n[1])
		growth := new(big.Int).Add(whole(n[0]), big.NewInt(drift))
		nowCount.Add(nowCount, whole(n[0]))
		nowCycle.Add(nowCycle, growth)
		if nowCount.Cmp(whole(greatest)) > 0 || growth.Sign() < 0 || nowCycle.Cmp(whole(greatest)) > 0 {
			return nil, api.ErrRange
		}
		e := api.Event{Kind: int(kind), Count: nowCount.Uint64(), Cycle: nowCycle.Uint64(), A: uint32(n[2]), B: uint32(n[3]), V: uint32(n[4])}
		if event.Check(e) != api.OK {
			return nil, api.ErrRange
		}
		l = append(l, e)
	}
	return l, api.OK
}

// holdRead: Read answers what it must; and what is read is printed again, if its first steps are 0.
func holdRead(t *testing.T, cycle, count uint64, s string) {
	t.Helper()
	want, wantErr := model(cycle, count, s)
	got, err := coil.Read(cycle, count, s)
	if err != wantErr || !slices.Equal(got, want) {
		t.Fatalf("Read(%d, %d, % x): %v, error %d; want %v, error %d", cycle, count, s, got, err, want, wantErr)
	}
	if err == api.OK && len(s) > 0 && got[0].Cycle == cycle && got[0].Count == count {
		if again, err := coil.Print(got); again != s || err != api.OK {
			t.Fatalf("% x is printed again as % x, error %d", s, again, err)
		}
	}
}

// bytes: those of an event, its kind and numbers.
func bytes(kind byte, n ...uint64) string {
	b := []byte{kind}
	for _, one := range n {
		b = binary.AppendUvarint(b, one)
	}
	return string(b)
}

func TestExampleOfTheChapter(t *testing.T) {
	l := []api.Event{{Kind: api.EHalt, Count: 5, Cycle: 9, A: 3}, {Kind: api.EExit, Count: 6, Cycle: 9}}
	want := "\x16\x00\x00\x03\x04\x01\x01\x00"
	if s, err := coil.Print(l); s != want || err != api.OK {
		t.Errorf("Print: % x, error %d", s, err)
	}
	if got, err := coil.Read(9, 5, want); !slices.Equal(got, l) || err != api.OK {
		t.Errorf("Read: %v, error %d", got, err)
	}
	if n := coil.Size(l[0], l[0]); n != 4 {
		t.Errorf("Size of the first one: %d", n)
	}
	if n := coil.Size(l[0], l[1]); n != 4 {
		t.Errorf("Size of the second one: %d", n)
	}
}

// P6.1

func TestPrintOfNoEvent(t *testing.T) {
	for _, l := range [][]api.Event{nil, {}} {
		if s, err := coil.Print(l); s != "" || err != api.OK {
			t.Errorf("%q, error %d", s, err)
		}
	}
}

func TestPrintOfEachKind(t *testing.T) {
	for k, e := range right {
		if e.Kind != k+1 {
			t.Fatal("a kind is left out ahead of", e)
		}
		for _, n := range stamps {
			holdPrint(t, at(e, n, greatest-n))
		}
		for _, other := range right {
			holdPrint(t, at(e, 10, 20), at(other, 10, 20), at(e, 11, 20), at(other, 300, 1<<31))
		}
	}
	holdPrint(t, inTurn()...)
	if s, err := coil.Print(inTurn()); s == "" || err != api.OK {
		t.Errorf("% x, error %d", s, err)
	}
}

func TestStepsAtTheEdges(t *testing.T) {
	end := api.Event{Kind: api.EClose}
	for _, c := range []struct {
		what                      string
		count, cycle, next, later uint64
		err                       api.Errno
	}{
		{"no step", 7, 9, 7, 9, api.OK},
		{"both from 0 to 0", 0, 0, 0, 0, api.OK},
		{"both at the greatest", greatest, greatest, greatest, greatest, api.OK},
		{"count's step 2^32 - 1, drift 0", 7, 9, 7 + word, 9 + word, api.OK},
		{"count's step 2^32, drift 0", 7, 9, 8 + word, 10 + word, api.ErrRange},
		{"count's step 2^32, drift -1", 7, 9, 8 + word, 9 + word, api.ErrRange},
		{"drift 2^31 - 1", 7, 9, 7, 9 + 1<<31 - 1, api.OK},
		{"drift 2^31", 7, 9, 7, 9 + 1<<31, api.ErrRange},
		{"drift -2^31", 7, 9, 7 + 1<<31, 9, api.OK},
		{"drift -2^31 - 1", 7, 9, 8 + 1<<31, 9, api.ErrRange},
		{"the greatest step and drift", 7, 9, 7 + word, 9 + word + 1<<31 - 1, api.OK},
		{"the greatest step, a drift of one more", 7, 9, 7 + word, 9 + word + 1<<31, api.ErrRange},
		{"the greatest step, the least drift", 7, 9, 7 + word, 9 + word - 1<<31, api.OK},
		{"the greatest step, a drift of one less", 7, 9, 7 + word, 8 + word - 1<<31, api.ErrRange},
		{"the count falls", 7, 9, 6, 9, api.ErrRange},
		{"the cycles fall", 7, 9, 7, 8, api.ErrRange},
		{"both fall", 7, 9, 6, 8, api.ErrRange},
		{"the count grows, the cycles fall", 7, 9, 8, 8, api.ErrRange},
		{"the count falls, the cycles grow", 7, 9, 6, 10, api.ErrRange},
		{"the count from the greatest to 0", greatest, 9, 0, 10, api.ErrRange},
		{"the cycles from the greatest to 0", 7, greatest, 8, 0, api.ErrRange},
		{"the cycles from 0 to the greatest", 7, 0, 7, greatest, api.ErrRange},
		{"the cycles by 2^63", 7, 0, 7, 1 << 63, api.ErrRange},
		{"the cycles by 2^63, the count by one", 7, 0, 8, 1 << 63, api.ErrRange},
		{"both from 0 to the greatest", 0, 0, greatest, greatest, api.ErrRange},
		{"both up to the greatest", greatest - word, greatest - word, greatest, greatest, api.OK},
	} {
		before, e := at(end, c.count, c.cycle), at(end, c.next, c.later)
		holdPrint(t, before, e)
		s, err := coil.Print([]api.Event{before, e})
		if err != c.err || (s == "") != (err != api.OK) {
			t.Errorf("%s: % x, error %d, want %d", c.what, s, err, c.err)
		}
		if n := coil.Size(before, e); (n == 0) != (c.err != api.OK) {
			t.Errorf("%s: Size %d", c.what, n)
		}
	}
}

func TestStepsBetweenAllStamps(t *testing.T) {
	e := api.Event{Kind: api.ELock, A: 1, B: 2}
	for _, count := range stamps {
		for _, cycle := range stamps {
			for _, next := range stamps {
				for _, later := range stamps {
					holdPrint(t, at(e, count, cycle), at(e, next, later))
				}
			}
		}
	}
}

func TestSizeTakesOnlyTheStampsOfTheOneAhead(t *testing.T) {
	e := api.Event{Kind: api.EDev, Count: 200, Cycle: 400, A: 3, B: 70, V: 300}
	for _, before := range slices.Concat(wrong, right, []api.Event{{A: word, B: word, V: word}}) {
		if n := coil.Size(at(before, 10, 20), e); n != 1+2+2+1+1+2 {
			t.Errorf("behind %v: %d", before, n)
		}
	}
}

func TestWrongEventsHaveNoBytes(t *testing.T) {
	for _, e := range wrong {
		for _, n := range stamps {
			if got := coil.Size(at(e, n, n), at(e, n, n)); got != 0 {
				t.Errorf("%v behind itself: %d", at(e, n, n), got)
			}
		}
		if got := coil.Size(at(right[0], 1, 1), at(e, 0, 0)); got != 0 {
			t.Errorf("%v with steps that can't be told: %d", e, got)
		}
		holdPrint(t, e)
	}
}

func TestPrintsFirstErrorFromTheLeft(t *testing.T) {
	early, late := api.Event{Kind: api.EHalt, Count: 5, Cycle: 5}, api.Event{Kind: api.EHalt, Count: 9, Cycle: 9}
	for _, e := range wrong {
		bad, badEarly := at(e, 9, 9), at(e, 5, 5)
		for _, c := range []struct {
			what string
			l    []api.Event
			err  api.Errno
		}{
			{"alone", []api.Event{bad}, api.ErrForm},
			{"first", []api.Event{bad, late}, api.ErrForm},
			{"last", []api.Event{early, late, bad}, api.ErrForm},
			{"with steps that can't be told of its own", []api.Event{late, badEarly}, api.ErrForm},
			{"ahead of steps that can't be told", []api.Event{early, bad, early}, api.ErrForm},
			{"behind steps that can't be told", []api.Event{late, early, bad}, api.ErrRange},
			{"none, but steps that can't be told", []api.Event{early, late, early}, api.ErrRange},
		} {
			holdPrint(t, c.l...)
			if s, err := coil.Print(c.l); s != "" || err != c.err {
				t.Errorf("%v %s: % x, error %d, want %d", e, c.what, s, err, c.err)
			}
		}
	}
}

func TestPrintLeavesItsListAsItIs(t *testing.T) {
	for _, last := range []api.Event{right[2], wrong[0]} {
		room := []api.Event{right[0], right[1], last, right[3], right[4]}
		was := slices.Clone(room)
		coil.Print(room[:3])
		if !slices.Equal(room, was) {
			t.Errorf("%v, was %v", room, was)
		}
	}
}

// P6.2

func TestReadOfNoBytes(t *testing.T) {
	for _, n := range stamps {
		if l, err := coil.Read(n, n, ""); len(l) != 0 || err != api.OK {
			t.Errorf("%v, error %d", l, err)
		}
	}
}

func TestReadsKinds(t *testing.T) {
	for b := range 256 {
		want := api.ErrArg
		if b >= 1 && b <= 24 {
			want = api.ErrEnd
		}
		if l, err := coil.Read(9, 5, string([]byte{byte(b)})); len(l) != 0 || err != want {
			t.Errorf("the byte %d: %v, error %d, want %d", b, l, err, want)
		}
		want = api.OK
		if b < 1 || b > 24 {
			want = api.ErrArg
		}
		s := fitting(byte(b))
		if l, err := coil.Read(9, 5, s); err != want || want == api.OK && (len(l) != 1 || l[0].Kind != b) {
			t.Errorf("% x: %v, error %d, want %d", s, l, err, want)
		}
		if l, err := coil.Read(9, 5, "\x18\x00\x00"+s); err != want || want == api.OK && (len(l) != 2 || l[1].Kind != b) {
			t.Errorf("% x behind a close: %v, error %d, want %d", s, l, err, want)
		}
	}
}

// fitting: bytes of an event of this kind, its A 1, its B 0 and its V 1: an event of each kind can have these.
func fitting(kind byte) string {
	n := []uint64{0, 0}
	a, b, v := event.Fields(int(kind))
	for k, has := range []bool{a, b, v} {
		if has {
			n = append(n, []uint64{1, 0, 1}[k])
		}
	}
	return bytes(kind, n...)
}

// spoilt: spellings of numbers that leb.Most refuses, and its error.
var spoilt = []struct {
	s   string
	err api.Errno
}{
	{"", api.ErrEnd},
	{"\x80", api.ErrEnd},
	{"\xff\xff\xff\xff", api.ErrEnd},
	{"\x80\x00", api.ErrForm},
	{"\x81\x00", api.ErrForm},
	{"\xff\x80\x00", api.ErrForm},
	{"\xff\xff\xff\xff\xff\xff\xff\xff\xff\x02", api.ErrForm},
	{"\x80\x80\x80\x80\x10", api.ErrRange},
	{"\xff\xff\xff\xff\xff\x01", api.ErrRange},
	{"\xff\xff\xff\xff\xff\xff\xff\xff\xff\x01", api.ErrRange},
}

func TestReadsFirstErrorAmongNumbers(t *testing.T) {
	// A device's event has all five numbers; those ahead of the wrong one are right, or such that the event can't be.
	for _, head := range [][]uint64{{0, 0, 1, 2, 3}, {word, 0, 1, 2, 3}, {0, 1, 1, 2, 3}, {0, word, 16, 80, word}} {
		for place := range 5 {
			for _, bad := range spoilt {
				s := bytes(api.EDev, head[:place]...) + bad.s
				holdRead(t, greatest, greatest, s)
				if l, err := coil.Read(greatest, greatest, s); len(l) != 0 || err != bad.err {
					t.Errorf("% x: %v, error %d, want %d", s, l, err, bad.err)
				}
				if bad.err == api.ErrEnd {
					continue
				}
				for _, behind := range spoilt {
					s := s + behind.s
					if l, err := coil.Read(0, 0, s); len(l) != 0 || err != bad.err {
						t.Errorf("% x: %v, error %d, want %d", s, l, err, bad.err)
					}
				}
			}
		}
	}
}

func TestReadOfGreatNumbersAtEachPlace(t *testing.T) {
	for place := range 5 {
		for _, c := range []struct {
			n   uint64
			err api.Errno
		}{{word, api.OK}, {word + 1, api.ErrRange}, {greatest, api.ErrRange}} {
			n := []uint64{1 << 31, 0, 1, 2, 3}
			n[place] = c.n
			want := c.err
			if place == 2 || place == 3 {
				want = api.ErrRange // a port, and a task or line, of no such number
			}
			s := bytes(api.EDev, n...)
			holdRead(t, 9, 5, s)
			if l, err := coil.Read(9, 5, s); err != want || len(l) == 0 != (want != api.OK) {
				t.Errorf("% x: %v, error %d, want %d", s, l, err, want)
			}
		}
	}
}

func TestReadOfStampsAtTheEdges(t *testing.T) {
	for _, c := range []struct {
		what         string
		cycle, count uint64
		step, drift  uint64 // the drift folded
		err          api.Errno
	}{
		{"the count to the greatest", 0, greatest - 5, 5, 0, api.OK},
		{"the count one beyond", 0, greatest - 4, 5, 0, api.ErrRange},
		{"the count from the greatest on", 0, greatest, 1, 0, api.ErrRange},
		{"the count to the greatest by a word", 0, greatest - word, word, 0, api.OK},
		{"the count one beyond by a word", 0, greatest - word + 1, word, 0, api.ErrRange},
		{"the cycles to the greatest", greatest - 5, 0, 0, 10, api.OK},
		{"the cycles one beyond", greatest - 4, 0, 0, 10, api.ErrRange},
		{"the cycles one beyond by the step", greatest, 0, 1, 0, api.ErrRange},
		{"the cycles as they are, by a drift of -1", greatest, 0, 1, 1, api.OK},
		{"the cycles by the greatest step and drift", greatest - word - 1<<31 + 1, 0, word, word - 1, api.OK},
		{"the cycles one beyond by these", greatest - word - 1<<31 + 2, 0, word, word - 1, api.ErrRange},
		{"the cycles would fall by one", 9, 5, 0, 1, api.ErrRange},
		{"the cycles would fall by one, from 0", 0, 0, 0, 1, api.ErrRange},
		{"the cycles would fall by one, behind a step", 9, 5, 1, 3, api.ErrRange},
		{"the cycles would fall by 2^31", greatest, 5, 0, word, api.ErrRange},
		{"the least drift, and no growth", 0, 0, 1 << 31, word, api.OK},
		{"the least drift, and a fall by one", 9, 0, 1<<31 - 1, word, api.ErrRange},
		{"both as they are at the greatest", greatest, greatest, 0, 0, api.OK},
	} {
		s := bytes(api.EClose, c.step, c.drift)
		holdRead(t, c.cycle, c.count, s)
		if l, err := coil.Read(c.cycle, c.count, s); err != c.err || len(l) == 0 != (err != api.OK) {
			t.Errorf("%s: %v, error %d, want %d", c.what, l, err, c.err)
		}
		// The second event's base is the first one's stamps.
		holdRead(t, c.cycle, c.count, bytes(api.EHalt, 0, 0, 1)+s)
		holdRead(t, c.cycle, c.count, s+s)
	}
}

func TestReadFromAllStampsByAllSteps(t *testing.T) {
	for _, cycle := range stamps {
		for _, count := range stamps {
			for _, step := range countSteps {
				for _, drift := range drifts {
					s := bytes(api.EHalt, step, leb.Fold(drift), 3)
					holdRead(t, cycle, count, s)
					holdRead(t, cycle, count, s+s)
				}
			}
		}
	}
}

func TestReadOfEventsThatCannotBe(t *testing.T) {
	for _, s := range []string{
		bytes(api.EIrq, 0, 0, 16, 0),
		bytes(api.EIrq, 0, 0, 15, 2),
		bytes(api.EExit, 0, 0, 16),
		bytes(api.ESwitch, 0, 0, 2, 2),
		bytes(api.ESwitch, 0, 0, 64, 2),
		bytes(api.EHalt, 0, 0, 64),
		bytes(api.ELate, 0, 0, 1, 0),
		bytes(api.ELate, 0, 0, 1, 256),
		bytes(api.EBlock, 0, 0, 1, 31),
		bytes(api.EPost, 0, 0, 81, 0, 0),
		bytes(api.ERefuse, 0, 0, 80, 16, 39),
	} {
		holdRead(t, 9, 5, s)
		// What follows plays no part: the first one from the left tells the error.
		for _, behind := range []string{"", "\x18\x00\x00", "\x00", "\x18", "\x18\x80\x00"} {
			if l, err := coil.Read(9, 5, "\x18\x00\x00"+s+behind); len(l) != 0 || err != api.ErrRange {
				t.Errorf("% x and % x: %v, error %d", s, behind, l, err)
			}
		}
	}
}

func TestReadOfCutOffBytes(t *testing.T) {
	for _, e := range right {
		s, err := coil.Print([]api.Event{e, at(e, e.Count+300, e.Cycle+1<<20)})
		if err != api.OK {
			t.Fatal(e, err)
		}
		half := coil.Size(e, e)
		for n := range len(s) {
			want := api.ErrEnd
			if n == 0 || n == half {
				want = api.OK
			}
			if l, err := coil.Read(e.Cycle, e.Count, s[:n]); err != want || len(l) != 0 && n != half {
				t.Errorf("% x: %v, error %d, want %d", s[:n], l, err, want)
			}
		}
	}
}

// texts calls f with every text of n of these bytes.
func texts(n int, of string, f func(s string)) {
	s := make([]byte, n)
	var fill func(k int)
	fill = func(k int) {
		if k == n {
			f(string(s))
			return
		}
		for _, b := range []byte(of) {
			s[k] = b
			fill(k + 1)
		}
	}
	fill(0)
}

func TestReadOfAllSmallTexts(t *testing.T) {
	every := make([]byte, 256)
	for b := range every {
		every[b] = byte(b)
	}
	for n := range 3 {
		texts(n, string(every), func(s string) { holdRead(t, 9, 5, s) })
	}
	texts(3, "\x00\x01\x02\x03\x05\x07\x0c\x10\x11\x13\x16\x17\x18\x19\x3f\x40\x7f\x80\x81\xff", func(s string) {
		holdRead(t, 0, 0, s)
		holdRead(t, greatest, greatest, s)
		holdRead(t, 9, 5, "\x05"+s)
		holdRead(t, 9, 5, "\x18\x00\x00"+s)
		holdRead(t, greatest-1, greatest-1, "\x17\x00\x00"+s)
	})
	texts(6, "\x00\x01\x02\x04\x16\x18\x80", func(s string) { holdRead(t, 9, 5, s) })
}

func TestReadOfPrintedBytesAlteredAtOnePlace(t *testing.T) {
	for k, e := range right {
		first := at(e, 1000, 2000)
		s, err := coil.Print([]api.Event{first, at(right[(k+7)%len(right)], 1300, 2100), at(right[(k+1)%len(right)], 1300, 2900)})
		if err != api.OK {
			t.Fatal(e, err)
		}
		for place := range len(s) {
			for b := range 256 {
				holdRead(t, 2000, 1000, s[:place]+string([]byte{byte(b)})+s[place+1:])
				holdRead(t, 2000, 1000, s[:place]+string([]byte{byte(b)})+s[place:])
			}
			holdRead(t, 2000, 1000, s[:place]+s[place+1:])
		}
	}
}

// P6.3

// holdBack: these events are printed, read again, and their bytes keep the promise on bytes 255 and on the last one.
func holdBack(t *testing.T, l []api.Event) {
	t.Helper()
	s, err := coil.Print(l)
	if err != api.OK {
		t.Fatalf("%v: error %d", l, err)
	}
	back, err := coil.Read(l[0].Cycle, l[0].Count, s)
	if err != api.OK || !slices.Equal(back, l) {
		t.Fatalf("%v: % x is read as %v, error %d", l, s, back, err)
	}
	if strings.Contains(s, strings.Repeat("\xff", 5)) || s[len(s)-1] >= 128 {
		t.Fatalf("%v: % x", l, s)
	}
	sizes := 0
	for k, e := range l {
		sizes += coil.Size(l[max(0, k-1)], e)
	}
	if sizes != len(s) {
		t.Fatalf("%v: % x, but sizes of %d in all", l, s, sizes)
	}
}

func TestWhatIsPrintedIsRead(t *testing.T) {
	for _, e := range right {
		for _, n := range stamps {
			holdBack(t, []api.Event{at(e, n, greatest-n)})
		}
		for _, step := range countSteps {
			for _, drift := range drifts {
				growth := int64(step) + drift
				if growth < 0 {
					continue
				}
				l := []api.Event{at(e, 7, 9), at(e, 7+step, 9+uint64(growth)), at(e, 7+2*step, 9+2*uint64(growth))}
				holdBack(t, l)
				count, cycle := greatest-l[2].Count, greatest-l[2].Cycle
				for k := range l {
					l[k].Count += count
					l[k].Cycle += cycle
				}
				holdBack(t, l)
			}
		}
	}
	holdBack(t, inTurn())
}

func TestMostBytes255OnEnd(t *testing.T) {
	e := api.Event{Kind: api.EDev, A: 15, B: 79, V: word}
	s, err := coil.Print([]api.Event{e, at(e, word, word-1<<31)})
	want := "\x02\x00\x00\x0f\x4f\xff\xff\xff\xff\x0f" + "\x02\xff\xff\xff\xff\x0f\xff\xff\xff\xff\x0f\x0f\x4f\xff\xff\xff\xff\x0f"
	if s != want || err != api.OK {
		t.Errorf("% x, error %d", s, err)
	}
}

func TestReadOfManyEvents(t *testing.T) {
	const many = 1 << 16
	s := "\x18\x00\x00" + strings.Repeat("\x18\x02\x01", many)
	l, err := coil.Read(9, 5, s)
	if err != api.OK || len(l) != many+1 || l[many].Count != 5+2*many || l[many].Cycle != 9+many {
		t.Fatal(len(l), err)
	}
	holdBack(t, l)
}
