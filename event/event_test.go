package event_test

import (
	"maps"
	"math"
	"math/big"
	"slices"
	"strconv"
	"strings"
	"testing"

	"taffrail/api"
	"taffrail/event"
)

const (
	greatest = math.MaxUint64
	word     = math.MaxUint32
)

// errors: those that a call may answer, for what a failing test tells.
var errors = map[api.Errno]string{api.OK: "OK", api.ErrArg: "ErrArg", api.ErrForm: "ErrForm", api.ErrRange: "ErrRange"}

// wrongKinds: some below 1 and above 24; by their lowest bits some of them are kinds.
var wrongKinds = []int{
	0, -1, -2, -8, -24, -32, math.MinInt, math.MinInt + 1, math.MinInt32, math.MinInt + 24,
	25, 26, 31, 32, 33, 56, 64, 255, 256, 257, 280, 1 << 16, 1<<16 + 5, 1 << 32, 1<<32 + 24, math.MaxInt32, math.MaxInt - 1, math.MaxInt,
}

// ranges: what may stand at a place, as pairs of the least and the greatest; nil is what the kind hasn't.
type ranges []uint32

var (
	anyWord = ranges{0, word}
	bit     = ranges{0, 1}
	fifteen = ranges{0, 15}
	task    = ranges{0, 63}
	either  = ranges{0, 79}
	who     = ranges{0, 80}
	object  = ranges{0, 31}
	units   = ranges{0, 255}
	errno   = ranges{0, 16}
	seat    = ranges{0, 63, 255, 255}
)

// table: the chapter's, row by row.
var table = []struct {
	kind    int
	name    string
	a, b, v ranges
}{
	{1, "irq", fifteen, bit, nil},
	{2, "dev", fifteen, either, anyWord},
	{3, "enter", fifteen, nil, nil},
	{4, "exit", fifteen, nil, nil},
	{5, "switch", seat, seat, nil},
	{6, "release", task, nil, anyWord},
	{7, "late", task, nil, ranges{1, 255}},
	{8, "end", task, nil, anyWord},
	{9, "block", task, ranges{0, 0, 32, 159}, nil},
	{10, "wake", task, bit, nil},
	{11, "level", task, object, nil},
	{12, "lock", task, object, nil},
	{13, "unlock", task, object, nil},
	{14, "post", who, object, units},
	{15, "take", task, object, units},
	{16, "send", either, object, anyWord},
	{17, "recv", either, object, anyWord},
	{18, "timer", object, nil, nil},
	{19, "arm", either, object, anyWord},
	{20, "out", fifteen, either, anyWord},
	{21, "fault", either, errno, nil},
	{22, "halt", task, nil, nil},
	{23, "refuse", who, errno, ranges{0, 38}},
	{24, "close", nil, nil, nil},
}

// holds: may the number stand there?
func (r ranges) holds(n uint32) bool {
	if r == nil {
		return n == 0
	}
	for k := 0; k < len(r); k += 2 {
		if n >= r[k] && n <= r[k+1] {
			return true
		}
	}
	return false
}

// edges: the ends of each range and the numbers beside them, of this place and of all others, and some
// that a cut to fewer bits would make small ones.
func edges() []uint32 {
	all := []ranges{anyWord, bit, fifteen, task, either, who, object, units, errno, seat, {32, 159}, {0, 38}}
	seen := map[uint32]int{1 << 8: 1, 1<<8 + 1: 1, 1 << 16: 1, 1<<16 + 1: 1, 1 << 31: 1, 1<<31 - 1: 1, 1<<24 + 32: 1}
	for _, r := range all {
		for _, n := range r {
			seen[n-1], seen[n], seen[n+1] = 1, 1, 1
		}
	}
	return slices.Sorted(maps.Keys(seen))
}

// expected: what Check must answer, by the chapter's table.
func expected(e api.Event) api.Errno {
	for _, r := range table {
		if r.kind != e.Kind {
			continue
		}
		if !r.a.holds(e.A) || !r.b.holds(e.B) || !r.v.holds(e.V) || r.kind == 5 && e.A == e.B {
			return api.ErrRange
		}
		return api.OK
	}
	return api.ErrArg
}

// spelling: the line of an event by the words of the chapter, be it one that can be or not.
func spelling(e api.Event) string {
	r := table[e.Kind-1]
	words := []string{new(big.Int).SetUint64(e.Count).String(), new(big.Int).SetUint64(e.Cycle).String(), r.name}
	for k, has := range []bool{r.a != nil, r.b != nil, r.v != nil} {
		if has {
			words = append(words, big.NewInt(int64([]uint32{e.A, e.B, e.V}[k])).String())
		}
	}
	return strings.Join(words, " ")
}

// right: an event that can be of each kind, and its line.
var right = []struct {
	e    api.Event
	line string
}{
	{api.Event{Kind: api.EIrq, Count: 1, Cycle: 2, A: 3, B: 1}, "1 2 irq 3 1"},
	{api.Event{Kind: api.EDev, Count: 1, Cycle: 2, A: 3, B: 70, V: 1000}, "1 2 dev 3 70 1000"},
	{api.Event{Kind: api.EEnter, Count: 1, Cycle: 2, A: 3}, "1 2 enter 3"},
	{api.Event{Kind: api.EExit, Count: 1, Cycle: 2, A: 3}, "1 2 exit 3"},
	{api.Event{Kind: api.ESwitch, Count: 1, Cycle: 2, A: 3, B: 4}, "1 2 switch 3 4"},
	{api.Event{Kind: api.ERelease, Count: 1, Cycle: 2, A: 3, V: 1000}, "1 2 release 3 1000"},
	{api.Event{Kind: api.ELate, Count: 1, Cycle: 2, A: 3, V: 100}, "1 2 late 3 100"},
	{api.Event{Kind: api.EEnd, Count: 1, Cycle: 2, A: 3, V: 1000}, "1 2 end 3 1000"},
	{api.Event{Kind: api.EBlock, Count: 1, Cycle: 2, A: 3, B: 100}, "1 2 block 3 100"},
	{api.Event{Kind: api.EWake, Count: 1, Cycle: 2, A: 3, B: 1}, "1 2 wake 3 1"},
	{api.Event{Kind: api.ELevel, Count: 1, Cycle: 2, A: 3, B: 20}, "1 2 level 3 20"},
	{api.Event{Kind: api.ELock, Count: 1, Cycle: 2, A: 3, B: 20}, "1 2 lock 3 20"},
	{api.Event{Kind: api.EUnlock, Count: 1, Cycle: 2, A: 3, B: 20}, "1 2 unlock 3 20"},
	{api.Event{Kind: api.EPost, Count: 1, Cycle: 2, A: 80, B: 20, V: 100}, "1 2 post 80 20 100"},
	{api.Event{Kind: api.ETake, Count: 1, Cycle: 2, A: 3, B: 20, V: 100}, "1 2 take 3 20 100"},
	{api.Event{Kind: api.ESend, Count: 1, Cycle: 2, A: 70, B: 20, V: 1000}, "1 2 send 70 20 1000"},
	{api.Event{Kind: api.ERecv, Count: 1, Cycle: 2, A: 70, B: 20, V: 1000}, "1 2 recv 70 20 1000"},
	{api.Event{Kind: api.ETimer, Count: 1, Cycle: 2, A: 20}, "1 2 timer 20"},
	{api.Event{Kind: api.EArm, Count: 1, Cycle: 2, A: 70, B: 20, V: 1000}, "1 2 arm 70 20 1000"},
	{api.Event{Kind: api.EOut, Count: 1, Cycle: 2, A: 3, B: 70, V: 1000}, "1 2 out 3 70 1000"},
	{api.Event{Kind: api.EFault, Count: 1, Cycle: 2, A: 70, B: 13}, "1 2 fault 70 13"},
	{api.Event{Kind: api.EHalt, Count: 1, Cycle: 2, A: 3}, "1 2 halt 3"},
	{api.Event{Kind: api.ERefuse, Count: 1, Cycle: 2, A: 80, B: 7, V: 26}, "1 2 refuse 80 7 26"},
	{api.Event{Kind: api.EClose, Count: 1, Cycle: 2}, "1 2 close"},
}

func TestExamplesOfTheChapter(t *testing.T) {
	e := api.Event{Kind: api.ESwitch, Count: 5, Cycle: 9, A: 2, B: 255}
	if s, err := event.Text(e); s != "5 9 switch 2 255" || err != api.OK {
		t.Errorf("%q, %s", s, errors[err])
	}
	if got, err := event.Parse("5 9 switch 2 255"); got != e || err != api.OK {
		t.Errorf("%+v, %s", got, errors[err])
	}
	if got, err := event.Parse("5 9 exit 16"); got != (api.Event{}) || err != api.ErrRange {
		t.Errorf("%+v, %s", got, errors[err])
	}
	if got, err := event.Parse("5 9 halt"); got != (api.Event{}) || err != api.ErrForm {
		t.Errorf("%+v, %s", got, errors[err])
	}
}

// P5.1

func TestFieldsOfEachKind(t *testing.T) {
	for _, r := range table {
		a, b, v := event.Fields(r.kind)
		if a != (r.a != nil) || b != (r.b != nil) || v != (r.v != nil) {
			t.Errorf("Fields of %s: %v, %v, %v", r.name, a, b, v)
		}
	}
	for _, kind := range wrongKinds {
		if a, b, v := event.Fields(kind); a || b || v {
			t.Errorf("Fields of %d: %v, %v, %v", kind, a, b, v)
		}
	}
}

func TestCheckByTheTable(t *testing.T) {
	numbers := edges()
	for _, r := range table {
		for _, a := range numbers {
			for _, b := range numbers {
				for _, v := range numbers {
					e := api.Event{Kind: r.kind, A: a, B: b, V: v}
					if err := event.Check(e); err != expected(e) {
						t.Fatalf("Check of %s %d %d %d: %s", r.name, a, b, v, errors[err])
					}
				}
			}
		}
	}
}

// Of each place all numbers that have at most ten bits, where the others are right.
func TestCheckOfAllSmallNumbers(t *testing.T) {
	for _, c := range right {
		for n := range uint32(1 << 10) {
			for place := range 3 {
				e := c.e
				*[]*uint32{&e.A, &e.B, &e.V}[place] = n
				if err := event.Check(e); err != expected(e) {
					t.Errorf("Check of %+v: %s", e, errors[err])
				}
			}
		}
	}
}

func TestCheckAtTheEdges(t *testing.T) {
	for _, c := range []struct {
		kind    int
		a, b, v uint32
		err     api.Errno
	}{
		{api.EIrq, 15, 1, 0, api.OK},
		{api.EIrq, 16, 0, 0, api.ErrRange},
		{api.EIrq, 0, 2, 0, api.ErrRange},
		{api.EDev, 15, 79, word, api.OK},
		{api.EDev, 16, 0, 0, api.ErrRange},
		{api.EDev, 0, 80, 0, api.ErrRange},
		{api.EEnter, 15, 0, 0, api.OK},
		{api.EEnter, 16, 0, 0, api.ErrRange},
		{api.EExit, 15, 0, 0, api.OK},
		{api.EExit, 16, 0, 0, api.ErrRange},
		{api.ESwitch, 0, 255, 0, api.OK},
		{api.ESwitch, 255, 0, 0, api.OK},
		{api.ESwitch, 255, 63, 0, api.OK},
		{api.ESwitch, 63, 62, 0, api.OK},
		{api.ESwitch, 0, 0, 0, api.ErrRange},
		{api.ESwitch, 63, 63, 0, api.ErrRange},
		{api.ESwitch, 255, 255, 0, api.ErrRange},
		{api.ESwitch, 64, 0, 0, api.ErrRange},
		{api.ESwitch, 0, 64, 0, api.ErrRange},
		{api.ESwitch, 254, 0, 0, api.ErrRange},
		{api.ESwitch, 0, 254, 0, api.ErrRange},
		{api.ESwitch, 256, 0, 0, api.ErrRange},
		{api.ESwitch, 0, 256, 0, api.ErrRange},
		{api.ERelease, 63, 0, word, api.OK},
		{api.ERelease, 64, 0, 0, api.ErrRange},
		{api.ELate, 0, 0, 0, api.ErrRange},
		{api.ELate, 0, 0, 1, api.OK},
		{api.ELate, 63, 0, 255, api.OK},
		{api.ELate, 0, 0, 256, api.ErrRange},
		{api.ELate, 64, 0, 1, api.ErrRange},
		{api.EEnd, 63, 0, word, api.OK},
		{api.EEnd, 64, 0, 0, api.ErrRange},
		{api.EBlock, 63, 0, 0, api.OK},
		{api.EBlock, 0, 1, 0, api.ErrRange},
		{api.EBlock, 0, 31, 0, api.ErrRange},
		{api.EBlock, 0, 32, 0, api.OK},
		{api.EBlock, 0, 159, 0, api.OK},
		{api.EBlock, 0, 160, 0, api.ErrRange},
		{api.EBlock, 64, 0, 0, api.ErrRange},
		{api.EWake, 63, 1, 0, api.OK},
		{api.EWake, 64, 1, 0, api.ErrRange},
		{api.EWake, 0, 2, 0, api.ErrRange},
		{api.ELevel, 63, 31, 0, api.OK},
		{api.ELevel, 64, 0, 0, api.ErrRange},
		{api.ELevel, 0, 32, 0, api.ErrRange},
		{api.EPost, 80, 31, 255, api.OK},
		{api.EPost, 81, 0, 0, api.ErrRange},
		{api.EPost, 0, 32, 0, api.ErrRange},
		{api.EPost, 0, 0, 256, api.ErrRange},
		{api.ETake, 63, 31, 255, api.OK},
		{api.ETake, 64, 0, 0, api.ErrRange},
		{api.ETake, 0, 0, 256, api.ErrRange},
		{api.ESend, 79, 31, word, api.OK},
		{api.ESend, 80, 0, 0, api.ErrRange},
		{api.ERecv, 79, 31, word, api.OK},
		{api.ERecv, 80, 0, 0, api.ErrRange},
		{api.ETimer, 31, 0, 0, api.OK},
		{api.ETimer, 32, 0, 0, api.ErrRange},
		{api.EArm, 79, 31, 0, api.OK},
		{api.EArm, 79, 31, word, api.OK},
		{api.EArm, 80, 0, 0, api.ErrRange},
		{api.EOut, 15, 79, word, api.OK},
		{api.EOut, 16, 0, 0, api.ErrRange},
		{api.EOut, 0, 80, 0, api.ErrRange},
		{api.EFault, 79, 16, 0, api.OK},
		{api.EFault, 80, 0, 0, api.ErrRange},
		{api.EFault, 0, 17, 0, api.ErrRange},
		{api.EHalt, 63, 0, 0, api.OK},
		{api.EHalt, 64, 0, 0, api.ErrRange},
		{api.ERefuse, 80, 16, 38, api.OK},
		{api.ERefuse, 0, 0, 0, api.OK},
		{api.ERefuse, 81, 0, 0, api.ErrRange},
		{api.ERefuse, 0, 17, 0, api.ErrRange},
		{api.ERefuse, 0, 0, 39, api.ErrRange},
		{api.EClose, 0, 0, 0, api.OK},
		// Numbers that the kind hasn't, and that aren't 0.
		{api.EClose, 1, 0, 0, api.ErrRange},
		{api.EClose, 0, 1, 0, api.ErrRange},
		{api.EClose, 0, 0, 1, api.ErrRange},
		{api.EEnter, 0, 1, 0, api.ErrRange},
		{api.EEnter, 0, 0, 1, api.ErrRange},
		{api.ERelease, 0, 1, 0, api.ErrRange},
		{api.ESwitch, 1, 2, 1, api.ErrRange},
		{api.EHalt, 0, 0, word, api.ErrRange},
	} {
		e := api.Event{Kind: c.kind, Count: greatest, Cycle: greatest, A: c.a, B: c.b, V: c.v}
		if err := event.Check(e); err != c.err {
			t.Errorf("Check of %+v: %s, not %s", e, errors[err], errors[c.err])
		}
	}
}

// The kind's error is named ahead of the numbers' one.
func TestCheckOfNoKind(t *testing.T) {
	for _, kind := range wrongKinds {
		for _, n := range []uint32{0, 1, word} {
			e := api.Event{Kind: kind, A: n, B: n, V: n}
			if err := event.Check(e); err != api.ErrArg {
				t.Errorf("Check of %+v: %s", e, errors[err])
			}
		}
	}
}

func TestCheckOfAnyStamps(t *testing.T) {
	for _, c := range right {
		for _, n := range []uint64{0, 1, word, word + 1, 1 << 63, greatest} {
			for _, m := range []uint64{0, 1, greatest} {
				e := c.e
				e.Count, e.Cycle = n, m
				if err := event.Check(e); err != api.OK {
					t.Errorf("Check of %+v: %s", e, errors[err])
				}
			}
		}
	}
}

func TestPassOfEachBit(t *testing.T) {
	for bit := range 32 {
		for kind := 1; kind <= 24; kind++ {
			one := uint32(1) << bit
			if got := event.Pass(one, kind); got != (kind == bit || kind == 24) {
				t.Errorf("Pass of %d by bit %d alone: %v", kind, bit, got)
			}
			if got := event.Pass(word^one, kind); got != (kind != bit || kind == 24) {
				t.Errorf("Pass of %d by all but bit %d: %v", kind, bit, got)
			}
		}
	}
	for kind := 1; kind <= 24; kind++ {
		if event.Pass(0, kind) != (kind == 24) || !event.Pass(word, kind) {
			t.Errorf("Pass of %d by none or by all", kind)
		}
	}
}

func TestPassOfNoKind(t *testing.T) {
	for _, kind := range wrongKinds {
		for _, filter := range []uint32{0, 1, 1 << 24, 1 << 25, 1 << 31, word} {
			if event.Pass(filter, kind) {
				t.Errorf("Pass of %d by %x", kind, filter)
			}
		}
	}
}

// P5.2

func TestNamesThereAndBack(t *testing.T) {
	for _, r := range table {
		if s := event.Name(r.kind); s != r.name {
			t.Errorf("Name of %d: %q, not %q", r.kind, s, r.name)
		}
		if kind := event.Kind(r.name); kind != r.kind {
			t.Errorf("Kind of %q: %d, not %d", r.name, kind, r.kind)
		}
	}
	for _, kind := range wrongKinds {
		if s := event.Name(kind); s != "" {
			t.Errorf("Name of %d: %q", kind, s)
		}
	}
}

func TestKindOfNoName(t *testing.T) {
	for _, s := range []string{
		"", " ", "0", "1", "24", "ir", "irqs", "IRQ", "Close", "closed", "clos", "c", "lock ", " lock", "un", "unlock\n", "lock\x00",
		"switch 1", "sleep", "none", "timers", "\xff", strings.Repeat("close", 1000),
	} {
		if kind := event.Kind(s); kind != 0 {
			t.Errorf("Kind of %q: %d", s, kind)
		}
	}
	names := map[string]int{}
	for _, r := range table {
		names[r.name] = r.kind
	}
	// One byte of each name altered, left out or put in.
	for _, r := range table {
		for k := range len(r.name) {
			for _, b := range []string{"", "\x00", " ", "a", "c", "k", "l", "A", "\xff"} {
				for _, s := range []string{r.name[:k] + b + r.name[k+1:], r.name[:k] + b + r.name[k:]} {
					if kind := event.Kind(s); kind != names[s] {
						t.Errorf("Kind of %q: %d", s, kind)
					}
				}
			}
		}
	}
}

// P5.3

func TestLinesOfEachKind(t *testing.T) {
	if len(right) != 24 {
		t.Fatalf("%d kinds", len(right))
	}
	for _, c := range right {
		if s, err := event.Text(c.e); s != c.line || err != api.OK {
			t.Errorf("Text of %+v: %q, %s, not %q", c.e, s, errors[err], c.line)
		}
		if e, err := event.Parse(c.line); e != c.e || err != api.OK {
			t.Errorf("Parse of %q: %+v, %s", c.line, e, errors[err])
		}
	}
}

// Each event at the edges: its line, there and back, or Check's error both ways.
func TestTextAndParseByTheWords(t *testing.T) {
	numbers := edges()
	for _, c := range right {
		for place := range 3 {
			for _, n := range numbers {
				e := c.e
				*[]*uint32{&e.A, &e.B, &e.V}[place] = n
				e.Count, e.Cycle = greatest-uint64(n), uint64(n)<<17
				checkLine(t, e)
			}
		}
	}
	for _, a := range numbers {
		for _, b := range numbers {
			checkLine(t, api.Event{Kind: api.ESwitch, A: a, B: b})
			checkLine(t, api.Event{Kind: api.EBlock, A: a, B: b})
		}
	}
}

// checkLine: Text says the event's line or Check's error; Parse says of that line just what it spells.
func checkLine(t *testing.T, e api.Event) {
	t.Helper()
	err := expected(e)
	line := spelling(e)
	want := line
	if err != api.OK {
		want = ""
	}
	if s, got := event.Text(e); s != want || got != err {
		t.Errorf("Text of %+v: %q, %s, not %q, %s", e, s, errors[got], want, errors[err])
	}
	// What the kind hasn't isn't in the line.
	r := table[e.Kind-1]
	if r.a == nil {
		e.A = 0
	}
	if r.b == nil {
		e.B = 0
	}
	if r.v == nil {
		e.V = 0
	}
	if err = expected(e); err != api.OK {
		e = api.Event{}
	}
	if got, gotErr := event.Parse(line); got != e || gotErr != err {
		t.Errorf("Parse of %q: %+v, %s, not %+v, %s", line, got, errors[gotErr], e, errors[err])
	}
}

func TestTextOfNoKind(t *testing.T) {
	for _, kind := range wrongKinds {
		for _, n := range []uint32{0, 1, word} {
			if s, err := event.Text(api.Event{Kind: kind, A: n, B: n, V: n}); s != "" || err != api.ErrArg {
				t.Errorf("Text of kind %d: %q, %s", kind, s, errors[err])
			}
		}
	}
}

func TestParseAtTheEdgesOfNumbers(t *testing.T) {
	for _, c := range []struct {
		line string
		e    api.Event
	}{
		{"0 0 close", api.Event{Kind: api.EClose}},
		{"18446744073709551615 0 close", api.Event{Kind: api.EClose, Count: greatest}},
		{"0 18446744073709551615 close", api.Event{Kind: api.EClose, Cycle: greatest}},
		{"18446744073709551615 18446744073709551614 close", api.Event{Kind: api.EClose, Count: greatest, Cycle: greatest - 1}},
		{"4294967296 4294967295 close", api.Event{Kind: api.EClose, Count: word + 1, Cycle: word}},
		{"10 100 release 0 4294967295", api.Event{Kind: api.ERelease, Count: 10, Cycle: 100, V: word}},
		{"10 100 dev 0 0 0", api.Event{Kind: api.EDev, Count: 10, Cycle: 100}},
	} {
		if e, err := event.Parse(c.line); e != c.e || err != api.OK {
			t.Errorf("Parse of %q: %+v, %s", c.line, e, errors[err])
		}
		if s, err := event.Text(c.e); s != c.line || err != api.OK {
			t.Errorf("Text of %+v: %q, %s", c.e, s, errors[err])
		}
	}
}

// refused: Parse answers this error, and nothing beside it.
func refused(t *testing.T, line string, err api.Errno) {
	t.Helper()
	if e, got := event.Parse(line); e != (api.Event{}) || got != err {
		t.Errorf("Parse of %q: %+v, %s, not %s", line, e, errors[got], errors[err])
	}
}

func TestParseOfWrongForms(t *testing.T) {
	for _, line := range []string{
		"", " ", "  ", "   ", "1", "1 ", "1 2", "1 2 ", "1 2  ", "close", "1 close", "close 1 2", "1 close 2",
		" 1 2 close", "1 2 close ", "1  2 close", "1 2  close", "1 2 close  ", "\t1 2 close", "1\t2 close", "1 2\tclose",
		"1 2 close\n", "1 2 close\r\n", "\n1 2 close", "1 2 close\x00", "1,2,close", "1 2 Close", "1 2 CLOSE", "1 2 clos", "1 2 closes",
		"1 2 24", "1 2 0", "1 2 nothing", "1 2 nothing 0", "1 2 3 4",
		"1 2 close 0", "1 2 close 0 0 0", "1 2 close 0 0 0 0", "1 2 3 close",
		"1 2 halt", "1 2 halt ", "1 2 halt  0", "1 2 halt 0 ", "1 2 halt 0 0", "1 2 halt 64 0",
		"1 2 irq 1", "1 2 irq 1 ", "1 2 irq  1", "1 2 irq 1 1 1", "1 2 dev 1 1", "1 2 dev 1 1 1 ", "1 2 dev 1 1 1 1", "1 2 dev 1 1 1 1 1 1",
		"1 2 release 1 0 1", "1 2 release 1",
		strings.Repeat(" ", 1<<16), strings.Repeat("1 ", 1<<16), strings.Repeat("1", 1<<16), "1 2 close" + strings.Repeat(" 0", 1<<16),
	} {
		refused(t, line, api.ErrForm)
	}
}

func TestParseOfWrongNumbers(t *testing.T) {
	wrong := []string{
		"", "-", "+", "-0", "-1", "+0", "+1", "00", "01", "007", "000", "0x1", "0b1", "0o1", "1_0", "1e1", "1.0", ".1", "1.", "a", "f", "x", "1a", "a1",
		"\x001", "1\x00", "\xff", "1\n", "\t1", "\u0661", "\uff11", "1\xb2", "/", ":", "1/", "1:", "O", "irq",
		"18446744073709551616", "18446744073709551625", "018446744073709551615", "28446744073709551615", "99999999999999999999", "184467440737095516150",
		"100000000000000000000", "340282366920938463463374607431768211456", strings.Repeat("9", 1000), "0" + strings.Repeat("0", 1000) + "1",
	}
	for _, s := range wrong {
		refused(t, s+" 2 close", api.ErrForm)
		refused(t, "1 "+s+" close", api.ErrForm)
		refused(t, "1 2 dev "+s+" 0 0", api.ErrForm)
		refused(t, "1 2 dev 0 "+s+" 0", api.ErrForm)
		refused(t, "1 2 dev 0 0 "+s, api.ErrForm)
		refused(t, "1 2 release 0 "+s, api.ErrForm)
	}
	for _, s := range []string{"4294967296", "4294967297", "4294967305", "5294967295", "42949672950", "04294967295", "18446744073709551615", "8589934592"} {
		refused(t, "1 2 dev "+s+" 0 0", api.ErrForm)
		refused(t, "1 2 dev 0 "+s+" 0", api.ErrForm)
		refused(t, "1 2 dev 0 0 "+s, api.ErrForm)
		refused(t, "1 2 halt "+s, api.ErrForm)
	}
}

// The form's error is named ahead of Check's one.
func TestParseOfWrongFormAndRange(t *testing.T) {
	for _, line := range []string{"1 2 exit 16 0", "1 2 switch 3 3 0", "1 2 late 64 00", "1 2 dev 16 80 4294967296", "01 2 exit 16", "1 2 exit 016", "1 2 block 64 "} {
		refused(t, line, api.ErrForm)
	}
	for _, line := range []string{
		"1 2 exit 16", "1 2 switch 3 3", "1 2 switch 255 255", "1 2 switch 64 1", "1 2 late 0 0", "1 2 late 0 256", "1 2 block 1 1", "1 2 block 1 31", "1 2 block 1 160",
		"1 2 irq 16 0", "1 2 irq 0 2", "1 2 dev 16 0 0", "1 2 dev 0 80 0", "1 2 halt 4294967295", "1 2 post 81 0 0", "1 2 refuse 0 17 0", "1 2 refuse 0 0 39",
	} {
		refused(t, line, api.ErrRange)
	}
}

// What is parsed is told again by the same line: so no other lines are read as that event.
func TestOneLineOfEachEvent(t *testing.T) {
	for _, c := range right {
		for k := range len(c.line) + 1 {
			for b := range 256 {
				put := c.line[:k] + string([]byte{byte(b)}) + c.line[k:]
				checkAgain(t, put)
				if k < len(c.line) {
					checkAgain(t, c.line[:k]+string([]byte{byte(b)})+c.line[k+1:])
				}
			}
			if k < len(c.line) {
				checkAgain(t, c.line[:k]+c.line[k+1:])
			}
			checkAgain(t, c.line[:k])
		}
	}
}

// checkAgain: a line is told again as it is, or is refused with an event that is nothing.
func checkAgain(t *testing.T, line string) {
	t.Helper()
	e, err := event.Parse(line)
	if err != api.OK {
		if e != (api.Event{}) || err != api.ErrForm && err != api.ErrRange || (err == api.ErrRange) != lineLike(line) {
			t.Errorf("Parse of %q: %+v, %s", line, e, errors[err])
		}
		return
	}
	if s, err := event.Text(e); s != line || err != api.OK {
		t.Errorf("%q is read as %+v, which has %q, %s", line, e, s, errors[err])
	}
}

// lineLike: has it the form of a line, by the words of the chapter, whatever its numbers are?
func lineLike(line string) bool {
	words := strings.Split(line, " ")
	if len(words) < 3 || !numeral(words[0], 64) || !numeral(words[1], 64) {
		return false
	}
	for _, r := range table {
		if r.name != words[2] {
			continue
		}
		count := 3
		for _, f := range []ranges{r.a, r.b, r.v} {
			if f != nil {
				count++
			}
		}
		for _, w := range words[3:] {
			if !numeral(w, 32) {
				return false
			}
		}
		return len(words) == count
	}
	return false
}

// numeral: is it the one spelling of a number of so many bits?
func numeral(s string, bits int) bool {
	n, err := strconv.ParseUint(s, 10, bits)
	return err == nil && strconv.FormatUint(n, 10) == s
}
