package frame_test

import (
	"hash/crc32"
	"math"
	"slices"
	"strings"
	"testing"

	"taffrail/api"
	"taffrail/coil"
	"taffrail/crc"
	"taffrail/event"
	"taffrail/frame"
)

const (
	greatest = math.MaxUint64
	word     = math.MaxUint32
	marker   = "\xff\xff\xff\xff\xff\xff\xff\xff\xff\xff\xff\xff\xff\xff\xff\xffTAFRIL"
)

var table = crc.Make()

// numbers and stamps of frames: the named edges, those beside them, and where one more byte is needed.
var (
	seqs   = []uint32{0, 1, 127, 128, 300, 1<<28 - 1, 1 << 28, 1 << 31, word - 1, word}
	stamps = []uint64{0, 1, 127, 128, 200, word, 1 << 32, 1<<63 - 1, 1 << 63, greatest - 1, greatest}
)

// lists of events that fit into a frame, their stamps counted from the first one's.
var lists = [][]api.Event{
	{{Kind: api.EClose}},
	{{Kind: api.EHalt, A: 3}},
	{{Kind: api.EDev, A: 15, B: 79, V: word}},
	{{Kind: api.EHalt, A: 3}, {Kind: api.EClose}},
	{{Kind: api.EHalt, A: 3}, {Kind: api.EExit, Count: 1}, {Kind: api.EClose, Count: 300, Cycle: 1 << 20}},
	{{Kind: api.EDev, A: 15, B: 79, V: word}, {Kind: api.EDev, Count: word, Cycle: word - 1<<31, A: 15, B: 79, V: word}},
	slices.Repeat([]api.Event{{Kind: api.EHalt, A: 3}}, 30),
	slices.Repeat([]api.Event{{Kind: api.EClose}}, 40),
	slices.Repeat([]api.Event{{Kind: api.EDev, A: 15, B: 79, V: word}}, 12),
}

// from: the list with its stamps counted from these on.
func from(l []api.Event, cycle, count uint64) []api.Event {
	l = slices.Clone(l)
	for k := range l {
		l[k].Cycle += cycle
		l[k].Count += count
	}
	return l
}

// frames: some of each list, number and stamp.
func frames() []api.Frame {
	var all []api.Frame
	for _, l := range lists {
		last := l[len(l)-1]
		for k, seq := range seqs {
			cycle, count := stamps[k%len(stamps)], stamps[(7*k+3)%len(stamps)]
			all = append(all, api.Frame{Seq: seq, Events: from(l, min(cycle, greatest-last.Cycle), min(count, greatest-last.Count))})
		}
	}
	return all
}

// printed: the frame's bytes, where Print must answer some.
func printed(t *testing.T, f api.Frame) string {
	t.Helper()
	s, err := frame.Print(table, f)
	if err != api.OK {
		t.Fatalf("Print(%v): error %d", f, err)
	}
	return s
}

// halts: the bytes of a frame with this number, of so many events of four bytes each.
func halts(t *testing.T, seq uint32, n int) string {
	t.Helper()
	return printed(t, api.Frame{Seq: seq, Events: slices.Repeat([]api.Event{{Kind: api.EHalt, Count: 5, Cycle: 200, A: 3}}, n)})
}

// same: are the two frames one?
func same(f, g api.Frame) bool { return f.Seq == g.Seq && slices.Equal(f.Events, g.Events) }

// maker: a source of words that are the same in each run.
type maker uint32

func (m *maker) next() uint32 {
	*m ^= *m << 13
	*m ^= *m >> 17
	*m ^= *m << 5
	return uint32(*m)
}

// parts are a frame's bytes, parted.
type parts struct {
	marker, seq, cycle, count, size, headSum, payload, paySum string
}

// spelled: a number by so many bytes, by the words of chapter 4.
func spelled(n uint64, count int) string {
	var b []byte
	for range count {
		b = append(b, byte(n%128))
		n /= 128
	}
	return string(b)
}

// sum: the sum of these bytes, by five bytes.
func sum(s string) string { return spelled(uint64(crc32.ChecksumIEEE([]byte(s))), 5) }

// made: the parts by the chapter's words, all of them as they should be, whatever the payload is.
func made(seq, cycle, count uint64, payload string) parts {
	p := parts{marker: marker, seq: spelled(seq, 5), cycle: spelled(cycle, 10), count: spelled(count, 10), size: spelled(uint64(len(payload)), 2), payload: payload}
	return p.summed()
}

// summed: the parts with sums that are right.
func (p parts) summed() parts {
	p.headSum = sum("TAFRIL" + p.seq + p.cycle + p.count + p.size)
	p.paySum = sum(p.payload)
	return p
}

// text: all parts, one behind the other.
func (p parts) text() string {
	return p.marker + p.seq + p.cycle + p.count + p.size + p.headSum + p.payload + p.paySum
}

// with: the bytes, the one at a place another one.
func with(s string, at int, b byte) string { return s[:at] + string([]byte{b}) + s[at+1:] }

// number: what so many bytes at a place say, by the words of chapter 4.
func number(s string, at, count int) (uint64, api.Errno) {
	var n uint64
	for k := range count {
		if at+k >= len(s) {
			return 0, api.ErrEnd
		}
		b := s[at+k]
		if b > 127 || k == 9 && b > 1 {
			return 0, api.ErrForm
		}
		n += uint64(b) << (7 * k)
	}
	return n, api.OK
}

// sumAt: what is wrong with the sum of some bytes that stands at a place.
func sumAt(s string, at int, of string) api.Errno {
	n, err := number(s, at, 5)
	if err != api.OK {
		return err
	}
	if n > word {
		return api.ErrRange
	}
	if uint32(n) != crc32.ChecksumIEEE([]byte(of)) {
		return api.ErrSum
	}
	return api.OK
}

// header: what the bytes ahead of the payload say, by the chapter's words: Seq, cycles, count and length.
func header(s string) (n [4]uint64, err api.Errno) {
	for k := range len(marker) {
		if k == len(s) {
			return n, api.ErrEnd
		}
		if s[k] != marker[k] {
			return n, api.ErrForm
		}
	}
	for k, c := range []struct{ at, count int }{{22, 5}, {27, 10}, {37, 10}, {47, 2}} {
		if n[k], err = number(s, c.at, c.count); err != api.OK {
			return n, err
		}
		if k == 0 && n[k] > word {
			return n, api.ErrRange
		}
	}
	if n[3] < 1 || n[3] > 120 {
		return n, api.ErrLong
	}
	return n, sumAt(s, 49, s[16:49])
}

// model: what Read must answer, by the chapter's words.
func model(s string, at int) (api.Frame, int, api.Errno) {
	if at < 0 || at > len(s) {
		return api.Frame{}, 0, api.ErrArg
	}
	s = s[at:]
	n, err := header(s)
	if err != api.OK {
		return api.Frame{}, 0, err
	}
	end := 54 + int(n[3])
	if end > len(s) {
		return api.Frame{}, 0, api.ErrEnd
	}
	if err := sumAt(s, end, s[54:end]); err != api.OK {
		return api.Frame{}, 0, err
	}
	l, err := coil.Read(n[1], n[2], s[54:end])
	if err != api.OK {
		return api.Frame{}, 0, err
	}
	if l[0].Cycle != n[1] || l[0].Count != n[2] {
		return api.Frame{}, 0, api.ErrForm
	}
	return api.Frame{Seq: uint32(n[0]), Events: l}, at + end + 5, api.OK
}

// holdRead: Read answers what it must; and what is read is printed again by the bytes that stood there.
func holdRead(t *testing.T, s string, at int) {
	t.Helper()
	want, wantNext, wantErr := model(s, at)
	f, next, err := frame.Read(table, s, at)
	if !same(f, want) || next != wantNext || err != wantErr {
		t.Fatalf("Read of % x at %d: %v, %d, error %d; want %v, %d, error %d", s, at, f, next, err, want, wantNext, wantErr)
	}
	if err == api.OK && printed(t, f) != s[at:next] {
		t.Fatalf("% x at %d is printed again as % x", s, at, printed(t, f))
	}
}

// refused: Read answers just this error, and nothing beside it.
func refused(t *testing.T, what, s string, at int, want api.Errno) {
	t.Helper()
	if f, next, err := frame.Read(table, s, at); f.Seq != 0 || len(f.Events) != 0 || next != 0 || err != want {
		t.Errorf("%s: % x at %d: %v, %d, error %d, want %d", what, s, at, f, next, err, want)
	}
}

func TestExampleOfTheChapter(t *testing.T) {
	s := halts(t, 0, 1)
	if len(s) != 63 {
		t.Errorf("%d bytes", len(s))
	}
	for n := range len(s) {
		refused(t, "cut", s[:n], 0, api.ErrEnd)
	}
}

// P7.1

func TestMarker(t *testing.T) {
	if s := frame.Marker(); s != marker || len(s) != 22 {
		t.Errorf("% x", s)
	}
}

func TestPrintByteForByte(t *testing.T) {
	for _, c := range []struct {
		f api.Frame
		s string
	}{
		{
			api.Frame{Events: []api.Event{{Kind: api.EHalt, A: 3}}},
			"\x00\x00\x00\x00\x00" + "\x00\x00\x00\x00\x00\x00\x00\x00\x00\x00" + "\x00\x00\x00\x00\x00\x00\x00\x00\x00\x00" + "\x04\x00" +
				"\x41\x78\x24\x6d\x0a" + "\x16\x00\x00\x03" + "\x65\x0d\x7e\x69\x0c",
		},
		{
			api.Frame{Seq: 300, Events: []api.Event{{Kind: api.EHalt, Count: 5, Cycle: 200, A: 3}, {Kind: api.EClose, Count: 5, Cycle: 200}}},
			"\x2c\x02\x00\x00\x00" + "\x48\x01\x00\x00\x00\x00\x00\x00\x00\x00" + "\x05\x00\x00\x00\x00\x00\x00\x00\x00\x00" + "\x07\x00" +
				"\x41\x7d\x40\x44\x0f" + "\x16\x00\x00\x03\x18\x00\x00" + "\x2c\x57\x08\x4f\x09",
		},
		{
			api.Frame{Seq: word, Events: []api.Event{{Kind: api.EClose, Count: greatest, Cycle: greatest}}},
			"\x7f\x7f\x7f\x7f\x0f" + "\x7f\x7f\x7f\x7f\x7f\x7f\x7f\x7f\x7f\x01" + "\x7f\x7f\x7f\x7f\x7f\x7f\x7f\x7f\x7f\x01" + "\x03\x00" +
				"\x72\x1f\x54\x30\x0b" + "\x18\x00\x00" + "\x5a\x57\x50\x6b\x0e",
		},
	} {
		if s, err := frame.Print(table, c.f); s != marker+c.s || err != api.OK {
			t.Errorf("%v: % x, error %d", c.f, s, err)
		}
		if f, next, err := frame.Read(table, marker+c.s, 0); !same(f, c.f) || next != 22+len(c.s) || err != api.OK {
			t.Errorf("% x: %v, %d, error %d", c.s, f, next, err)
		}
	}
}

func TestPrintByTheWords(t *testing.T) {
	for _, f := range frames() {
		payload, err := coil.Print(f.Events)
		if err != api.OK {
			t.Fatal(f, err)
		}
		first := f.Events[0]
		want := made(uint64(f.Seq), first.Cycle, first.Count, payload).text()
		if s, err := frame.Print(table, f); s != want || err != api.OK || len(s) != 59+len(payload) {
			t.Errorf("%v: % x, error %d, want % x", f, s, err, want)
		}
	}
}

func TestPrintByEachTable(t *testing.T) {
	for _, f := range frames() {
		s, err := frame.Print(crc.Make(), f)
		if s != printed(t, f) || err != api.OK {
			t.Errorf("%v: % x, error %d", f, s, err)
		}
		if g, _, err := frame.Read(crc.Make(), s, 0); !same(f, g) || err != api.OK {
			t.Errorf("%v is read as %v, error %d", f, g, err)
		}
	}
}

// ofSize: events whose payload has so many bytes, by ones of three, four and five bytes.
func ofSize(size int) []api.Event {
	var l []api.Event
	for ; size >= 8; size -= 4 {
		l = append(l, api.Event{Kind: api.EHalt, A: 3})
	}
	switch size {
	case 3:
		return append(l, api.Event{Kind: api.EClose})
	case 4:
		return append(l, api.Event{Kind: api.EHalt})
	case 5:
		return append(l, api.Event{Kind: api.ELock})
	case 6:
		return append(l, api.Event{Kind: api.EClose}, api.Event{Kind: api.EClose})
	}
	return append(l, api.Event{Kind: api.EHalt}, api.Event{Kind: api.EClose})
}

func TestPayloadsLength(t *testing.T) {
	for size := 3; size <= 300; size++ {
		f := api.Frame{Seq: 7, Events: ofSize(size)}
		if payload, err := coil.Print(f.Events); len(payload) != size || err != api.OK {
			t.Fatal(size, len(payload), err)
		}
		s, err := frame.Print(table, f)
		if size > api.MaxPayload {
			if s != "" || err != api.ErrLong {
				t.Errorf("%d bytes: % x, error %d", size, s, err)
			}
			continue
		}
		if len(s) != 59+size || err != api.OK {
			t.Errorf("%d bytes: % x, error %d", size, s, err)
		}
		holdRead(t, s, 0)
		if g, next, err := frame.Read(table, s, 0); !same(f, g) || next != len(s) || err != api.OK {
			t.Errorf("%d bytes are read as %v, %d, error %d", size, g, next, err)
		}
	}
	if s := printed(t, api.Frame{Events: ofSize(api.MaxPayload)}); len(s) != api.MaxFrame {
		t.Errorf("the longest frame has %d bytes", len(s))
	}
}

func TestPrintsErrors(t *testing.T) {
	halt, end := api.Event{Kind: api.EHalt, Count: 5, Cycle: 9}, api.Event{Kind: api.EClose, Count: 6, Cycle: 10}
	long := slices.Repeat([]api.Event{end}, 41)
	for _, c := range []struct {
		what string
		l    []api.Event
		err  api.Errno
	}{
		{"no list", nil, api.ErrEmpty},
		{"an empty list", []api.Event{}, api.ErrEmpty},
		{"an empty list with room", long[:0], api.ErrEmpty},
		{"no kind", []api.Event{{}}, api.ErrForm},
		{"a task that can't be", []api.Event{{Kind: api.EHalt, A: 64}}, api.ErrForm},
		{"a number that the kind hasn't", []api.Event{halt, {Kind: api.EClose, Count: 6, Cycle: 10, V: 1}}, api.ErrForm},
		{"the count falls", []api.Event{end, {Kind: api.EHalt, Count: 5, Cycle: 10}}, api.ErrRange},
		{"the cycles fall", []api.Event{end, {Kind: api.EHalt, Count: 6, Cycle: 9}}, api.ErrRange},
		{"the count's step is 2^32", []api.Event{{Kind: api.EClose}, {Kind: api.EClose, Count: 1 << 32, Cycle: 1 << 32}}, api.ErrRange},
		{"the drift is 2^31", []api.Event{{Kind: api.EClose}, {Kind: api.EClose, Cycle: 1 << 31}}, api.ErrRange},
		{"steps that can't be told, then no kind", []api.Event{end, halt, {}}, api.ErrRange},
		{"no kind, then steps that can't be told", []api.Event{end, {}, halt}, api.ErrForm},
		{"too long", long, api.ErrLong},
		{"too long, and no kind at its end", append(slices.Clone(long), api.Event{}), api.ErrForm},
		{"too long, and its last steps can't be told", append(slices.Clone(long), halt), api.ErrRange},
		{"much too long", slices.Repeat(long, 1000), api.ErrLong},
	} {
		for _, seq := range seqs {
			f := api.Frame{Seq: seq, Events: c.l}
			if s, err := frame.Print(table, f); s != "" || err != c.err {
				t.Errorf("%s: % x, error %d, want %d", c.what, s, err, c.err)
			}
			if s, err := frame.Print(nil, f); s != "" || err != api.ErrNil {
				t.Errorf("%s, and no table: % x, error %d", c.what, s, err)
			}
		}
	}
	if s, err := frame.Print(nil, api.Frame{Events: []api.Event{halt}}); s != "" || err != api.ErrNil {
		t.Errorf("no table: % x, error %d", s, err)
	}
}

func TestPrintLeavesItsListAsItIs(t *testing.T) {
	for _, last := range []api.Event{{Kind: api.EHalt}, {}} {
		room := []api.Event{{Kind: api.EHalt, A: 1}, {Kind: api.EHalt, A: 2}, last, {Kind: api.EHalt, A: 4}, {Kind: api.EHalt, A: 5}}
		was := slices.Clone(room)
		frame.Print(table, api.Frame{Events: room[:3]})
		if !slices.Equal(room, was) {
			t.Errorf("%v, was %v", room, was)
		}
	}
}

// P7.2

// around: bytes that may stand ahead of a frame, and behind it.
func around(t *testing.T) []string {
	s := halts(t, 9, 2)
	return []string{"", "\x00", "\xff", marker, marker[:21], strings.Repeat("\xff", 40), "TAFRIL", s, s[:54], s[16:], s + s, strings.Repeat("x", 1000)}
}

func TestReadAtAPlace(t *testing.T) {
	for k, f := range frames() {
		s := printed(t, f)
		for _, ahead := range around(t) {
			for _, behind := range around(t) {
				all := ahead + s + behind
				if g, next, err := frame.Read(table, all, len(ahead)); !same(f, g) || next != len(ahead)+len(s) || err != api.OK {
					t.Fatalf("%v behind % x ahead of % x: %v, %d, error %d", f, ahead, behind, g, next, err)
				}
				if k%10 == 4 {
					for at := -1; at <= len(all)+1; at++ {
						holdRead(t, all, at)
					}
				}
			}
		}
	}
}

func TestReadAtWrongPlaces(t *testing.T) {
	for _, s := range []string{"", "x", marker, halts(t, 1, 1), halts(t, 1, 1) + halts(t, 2, 2)} {
		for _, at := range []int{-1, -2, -len(s) - 1, math.MinInt, math.MinInt32, len(s) + 1, len(s) + 2, math.MaxInt32, math.MaxInt - 1, math.MaxInt} {
			refused(t, "a place outside", s, at, api.ErrArg)
			if _, next, err := frame.Read(nil, s, at); next != 0 || err != api.ErrNil {
				t.Errorf("no table, and the place %d: %d, error %d", at, next, err)
			}
		}
		refused(t, "the place behind all", s, len(s), api.ErrEnd)
		for at := range len(s) + 1 {
			if f, next, err := frame.Read(nil, s, at); f.Seq != 0 || len(f.Events) != 0 || next != 0 || err != api.ErrNil {
				t.Errorf("no table: %v, %d, error %d", f, next, err)
			}
		}
	}
	s := halts(t, 1, 1)
	refused(t, "the last byte", "x"+s, len(s), api.ErrForm)
	refused(t, "one ahead", "x"+s, 0, api.ErrForm)
	refused(t, "one behind", s, 1, api.ErrForm)
}

// spoiler makes one thing wrong.
type spoiler struct {
	what string
	part func(p *parts) // ahead of the sums
	sum  func(p *parts) // once they are right
	need int            // with how many bytes it is seen; from 0 down, how many fewer than all
	err  api.Errno
}

// headSpoilers: what may be wrong ahead of the payload, from the left.
func headSpoilers() []spoiler {
	var l []spoiler
	add := func(what string, need int, err api.Errno, part, sum func(p *parts)) {
		l = append(l, spoiler{what, part, sum, need, err})
	}
	for k := range 22 {
		add("the marker", k+1, api.ErrForm, func(p *parts) { p.marker = with(p.marker, k, marker[k]^1) }, nil)
	}
	for k := range 5 {
		add("Seq's form", 23+k, api.ErrForm, func(p *parts) { p.seq = with(p.seq, k, 128) }, nil)
	}
	add("Seq 2^32", 27, api.ErrRange, func(p *parts) { p.seq = spelled(1<<32, 5) }, nil)
	add("Seq 2^35 - 1", 27, api.ErrRange, func(p *parts) { p.seq = spelled(1<<35-1, 5) }, nil)
	for k := range 10 {
		add("the cycles' form", 28+k, api.ErrForm, func(p *parts) { p.cycle = with(p.cycle, k, 255) }, nil)
	}
	add("the cycles 2^64", 37, api.ErrForm, func(p *parts) { p.cycle = with(p.cycle, 9, 2) }, nil)
	for k := range 10 {
		add("the count's form", 38+k, api.ErrForm, func(p *parts) { p.count = with(p.count, k, 128) }, nil)
	}
	add("the count 2^64", 47, api.ErrForm, func(p *parts) { p.count = with(p.count, 9, 2) }, nil)
	for k := range 2 {
		add("the length's form", 48+k, api.ErrForm, func(p *parts) { p.size = with(p.size, k, 128) }, nil)
	}
	for _, n := range []uint64{0, 121, 122, 127, 128, 129, 128 + 120, 1<<14 - 1} {
		add("the length", 49, api.ErrLong, func(p *parts) { p.size = spelled(n, 2) }, nil)
	}
	for k := range 5 {
		add("the header's sum's form", 50+k, api.ErrForm, nil, func(p *parts) { p.headSum = with(p.headSum, k, 128) })
	}
	for _, bit := range []byte{16, 32, 64} {
		add("the header's sum's range", 54, api.ErrRange, nil, func(p *parts) { p.headSum = with(p.headSum, 4, p.headSum[4]|bit) })
	}
	for k := range 5 {
		add("the header's sum", 54, api.ErrSum, nil, func(p *parts) { p.headSum = with(p.headSum, k, p.headSum[k]^1) })
	}
	return l
}

// paySpoilers: what may be wrong with the payload and its sum, from the left.
func paySpoilers() []spoiler {
	var l []spoiler
	add := func(what string, need int, err api.Errno, part, sum func(p *parts)) {
		l = append(l, spoiler{what, part, sum, need, err})
	}
	for k := range 5 {
		add("the payload's sum's form", k-4, api.ErrForm, nil, func(p *parts) { p.paySum = with(p.paySum, k, 128) })
	}
	for _, bit := range []byte{16, 32, 64} {
		add("the payload's sum's range", 0, api.ErrRange, nil, func(p *parts) { p.paySum = with(p.paySum, 4, p.paySum[4]|bit) })
	}
	for k := range 5 {
		add("the payload's sum", 0, api.ErrSum, nil, func(p *parts) { p.paySum = with(p.paySum, k, p.paySum[k]^1) })
	}
	for _, c := range []struct {
		what, payload string
		err           api.Errno
	}{
		{"no kind", "\x00\x00\x00", api.ErrArg},
		{"no kind behind an event", "\x18\x00\x00\x19", api.ErrArg},
		{"a payload of one byte", "\x18", api.ErrEnd},
		{"an event cut off", "\x18\x00\x00\x16\x00\x00", api.ErrEnd},
		{"a number's form", "\x16\x00\x00\x83\x00", api.ErrForm},
		{"a number's range", "\x18\x80\x80\x80\x80\x10\x00", api.ErrRange},
		{"an event that can't be", "\x16\x00\x00\x40", api.ErrRange},
		{"cycles that fall", "\x18\x00\x00\x18\x00\x01", api.ErrRange},
		{"other stamps, and no kind behind", "\x18\x01\x00\x00", api.ErrArg},
		{"other stamps, and cut off", "\x18\x01\x00\x18", api.ErrEnd},
		{"other stamps, and an event that can't be", "\x18\x01\x00\x16\x00\x00\x40", api.ErrRange},
		{"another count and other cycles", "\x18\x01\x00", api.ErrForm},
		{"another count", "\x18\x01\x01\x18\x00\x00", api.ErrForm},
		{"other cycles", "\x18\x00\x02", api.ErrForm},
	} {
		add(c.what, 0, c.err, func(p *parts) { p.payload, p.size = c.payload, spelled(uint64(len(c.payload)), 2) }, nil)
	}
	return l
}

// spoil: the frame with these things wrong, all sums right but where they are spoilt; the last one has the last word.
func spoil(l ...spoiler) string {
	p := made(300, 200, 5, "\x16\x00\x00\x03\x18\x00\x00")
	for _, one := range l {
		if one.part != nil {
			one.part(&p)
		}
	}
	p = p.summed()
	for _, one := range l {
		if one.sum != nil {
			one.sum(&p)
		}
	}
	return p.text()
}

// needed: how many bytes of s tell what is wrong.
func (one spoiler) needed(s string) int {
	if one.need > 0 {
		return one.need
	}
	return len(s) + one.need
}

func TestOneThingWrong(t *testing.T) {
	if s := spoil(); s != printed(t, api.Frame{Seq: 300, Events: []api.Event{{Kind: api.EHalt, Count: 5, Cycle: 200, A: 3}, {Kind: api.EClose, Count: 5, Cycle: 200}}}) {
		t.Fatalf("nothing wrong: % x", s)
	}
	for _, one := range slices.Concat(headSpoilers(), paySpoilers()) {
		s := spoil(one)
		for _, ahead := range around(t) {
			for _, behind := range around(t) {
				refused(t, one.what, ahead+s+behind, len(ahead), one.err)
				holdRead(t, ahead+s+behind, len(ahead))
			}
		}
		for n := range len(s) {
			want := api.ErrEnd
			if n >= one.needed(s) {
				want = one.err
			}
			refused(t, one.what+", cut off", s[:n], 0, want)
			refused(t, one.what+", cut off, at a place", s+s[:n], len(s), want)
		}
	}
}

func TestTwoThingsWrong(t *testing.T) {
	all := slices.Concat(headSpoilers(), paySpoilers())
	for k, one := range all {
		for _, other := range all[k+1:] {
			s := spoil(other, one)
			if one.need == 0 && one.part != nil {
				continue // two payloads: only one can stand there
			}
			what := one.what + ", and " + other.what
			refused(t, what, s, 0, one.err)
			refused(t, what+", cut off", s[:one.needed(s)], 0, one.err)
			refused(t, what+", cut off ahead", s[:one.needed(s)-1], 0, api.ErrEnd)
		}
	}
}

func TestReadOfGreatNumbers(t *testing.T) {
	for _, seq := range []uint64{0, word - 1, word, word + 1, word + 2, 1 << 33, 1 << 34, 1<<35 - 1} {
		s := made(seq, 0, 0, "\x18\x00\x00").text()
		holdRead(t, s, 0)
		f, next, err := frame.Read(table, s, 0)
		if seq <= word && (f.Seq != uint32(seq) || next != len(s) || err != api.OK) || seq > word && (f.Seq != 0 || next != 0 || err != api.ErrRange) {
			t.Errorf("Seq %d: %v, %d, error %d", seq, f, next, err)
		}
	}
	for _, cycle := range stamps {
		for _, count := range stamps {
			s := made(0, cycle, count, "\x18\x00\x00").text()
			if f, next, err := frame.Read(table, s, 0); len(f.Events) != 1 || f.Events[0] != (api.Event{Kind: api.EClose, Cycle: cycle, Count: count}) || next != len(s) || err != api.OK {
				t.Errorf("cycles %d, count %d: %v, %d, error %d", cycle, count, f, next, err)
			}
			// A step beyond the greatest stamp is refused by coil; one below it has other stamps than the header.
			want := api.ErrForm
			if cycle == greatest || count == greatest {
				want = api.ErrRange
			}
			refused(t, "a step further", made(0, cycle, count, "\x18\x01\x00").text(), 0, want)
		}
	}
	for last := range 256 {
		for _, p := range []parts{made(0, 0, 0, "\x18\x00\x00"), made(0, greatest, greatest, "\x18\x00\x00")} {
			cycles, counts := p, p
			cycles.cycle = with(p.cycle, 9, byte(last))
			counts.count = with(p.count, 9, byte(last))
			for _, s := range []string{cycles.summed().text(), counts.summed().text()} {
				holdRead(t, s, 0)
				if last > 1 {
					refused(t, "more than 2^64 - 1", s, 0, api.ErrForm)
				}
			}
		}
	}
}

func TestReadOfLengths(t *testing.T) {
	events := strings.Repeat("\x18\x00\x00", 60)
	for size := range 180 {
		s := made(1, 2, 3, events[:size]).text()
		want := api.ErrEnd // the last event is cut off, if it isn't whole
		switch {
		case size < 1 || size > 120:
			want = api.ErrLong
		case size%3 == 0:
			want = api.OK
		}
		holdRead(t, s, 0)
		if f, next, err := frame.Read(table, s, 0); err != want || err == api.OK && (len(f.Events) != size/3 || next != len(s)) {
			t.Errorf("a payload of %d: %v, %d, error %d, want %d", size, f, next, err, want)
		}
	}
	// A length that isn't the payload's own, behind a sum that is right.
	for size := range uint64(1 << 14) {
		p := made(1, 2, 3, events[:60])
		p.size = spelled(size, 2)
		p.headSum = p.summed().headSum
		holdRead(t, p.text(), 0)
		want := api.OK
		switch {
		case size < 1 || size > 120:
			want = api.ErrLong
		case size > 60:
			want = api.ErrEnd
		case size < 60:
			continue
		}
		if _, _, err := frame.Read(table, p.text(), 0); err != want {
			t.Errorf("a length of %d of 60: error %d, want %d", size, err, want)
		}
	}
}

func TestReadOfEachKind(t *testing.T) {
	for kind := range 256 {
		payload := string([]byte{byte(kind), 0, 0})
		a, b, v := event.Fields(kind)
		for k, has := range []bool{a, b, v} {
			if has {
				payload += string([]byte{[]byte{1, 0, 1}[k]})
			}
		}
		s := made(1, 2, 3, payload).text()
		holdRead(t, s, 0)
		want := api.OK
		if kind < 1 || kind > 24 {
			want = api.ErrArg
		}
		if f, _, err := frame.Read(table, s, 0); err != want || err == api.OK && f.Events[0].Kind != kind {
			t.Errorf("the kind %d: %v, error %d, want %d", kind, f, err, want)
		}
	}
}

func TestReadOfBytesAlteredAtOnePlace(t *testing.T) {
	other := halts(t, 2, 1)
	for k, f := range frames() {
		if k%10 != 3 && k%10 != 9 {
			continue
		}
		s := printed(t, f)
		for at := range len(s) {
			for b := range 256 {
				altered := with(s, at, byte(b))
				holdRead(t, altered, 0)
				if _, _, err := frame.Read(table, altered, 0); (err == api.OK) != (altered == s) {
					t.Fatalf("% x: error %d", altered, err)
				}
				holdRead(t, s[:at]+string([]byte{byte(b)})+s[at:]+other, 0)
			}
			holdRead(t, s[:at]+s[at+1:], 0)
			holdRead(t, s[:at]+s[at+1:]+other, 0)
			holdRead(t, s[:at], 0)
			holdRead(t, s[:at]+other, 0)
		}
	}
}

// The sums are made right again, so that what stands behind them is asked too.
func TestReadOfBytesAlteredBehindRightSums(t *testing.T) {
	for k, f := range frames() {
		if k%10 != 3 && k%10 != 9 {
			continue
		}
		s := printed(t, f)
		for at := range len(s) {
			for b := range 256 {
				altered := with(s, at, byte(b))
				payload := altered[54 : len(s)-5]
				holdRead(t, altered[:49]+sum(altered[16:49])+payload+sum(payload), 0)
			}
		}
	}
}

func TestReadOfAnyPayloadBehindRightSums(t *testing.T) {
	m := maker(3)
	for range 100000 {
		b := make([]byte, 1+m.next()%12)
		for k := range b {
			b[k] = []byte{0, 0, 0, 1, 2, 3, 4, 5, 12, 22, 24, 25, 128, 255}[m.next()>>7%14]
		}
		holdRead(t, made(uint64(m.next()), uint64(m.next()%4), uint64(m.next()%4), string(b)).text(), 0)
	}
}

func TestReadAnswersNewMemory(t *testing.T) {
	s := halts(t, 300, 5)
	f, _, _ := frame.Read(table, s, 0)
	clear(f.Events[:cap(f.Events)])
	if g, _, err := frame.Read(table, s, 0); len(g.Events) != 5 || g.Events[4].Kind != api.EHalt || err != api.OK {
		t.Errorf("%v, error %d", g, err)
	}
}

// P7.3

func TestWhatIsPrintedIsRead(t *testing.T) {
	for _, l := range lists {
		last := l[len(l)-1]
		for _, seq := range seqs {
			for _, cycle := range stamps {
				for _, count := range stamps {
					f := api.Frame{Seq: seq, Events: from(l, min(cycle, greatest-last.Cycle), min(count, greatest-last.Count))}
					s := printed(t, f)
					if g, next, err := frame.Read(table, "\xff"+s+s[:20], 1); !same(f, g) || next != 1+len(s) || err != api.OK {
						t.Fatalf("%v: %v, %d, error %d", f, g, next, err)
					}
				}
			}
		}
	}
}

// Other frames have other bytes, and what Read accepts is what Print answers (holdRead), so each has one spelling.
func TestOtherFramesHaveOtherBytes(t *testing.T) {
	seen := map[string]api.Frame{}
	for _, f := range frames() {
		s := printed(t, f)
		if g, ok := seen[s]; ok && !same(f, g) {
			t.Errorf("%v and %v", f, g)
		}
		seen[s] = f
	}
	if len(seen) != len(lists)*len(seqs) {
		t.Errorf("%d spellings", len(seen))
	}
}

// turned: the bytes, turned from a bit on by a pattern, whose bits beyond the end are left out.
func turned(s string, at int, pattern uint32) string {
	b := []byte(s)
	for ; pattern != 0 && at < 8*len(b); pattern >>= 1 {
		b[at/8] ^= byte(pattern&1) << (at % 8)
		at++
	}
	return string(b)
}

// patterns: bursts of each length, all of them up to eight bits, and chosen and made ones of more.
func patterns() []uint32 {
	var l []uint32
	for p := uint32(1); p < 256; p += 2 {
		l = append(l, p)
	}
	m := maker(5)
	for n := 9; n <= 32; n++ {
		ends := uint32(1)<<(n-1) | 1
		all := uint32(1<<n - 1)
		l = append(l, ends, all, all&0x55555555|ends, all&0x01010101|ends, all&0x83838383|ends, all&m.next()|ends, all&m.next()|ends)
	}
	// What the sums are xored with: a burst by it and one bit more would be overlooked.
	return append(l, 0xedb88320>>5, 0xedb88320|1, 0x04c11db7)
}

// shortAndLong: a frame of one event, one of several with numbers of all bits 1, and the longest one.
func shortAndLong(t *testing.T) []string {
	dev := api.Event{Kind: api.EDev, A: 15, B: 79, V: word, Count: greatest, Cycle: greatest}
	return []string{halts(t, 0, 1), printed(t, api.Frame{Seq: word, Events: slices.Repeat([]api.Event{dev}, 3)}), halts(t, 300, 30)}
}

func TestBehindABurstItIsNoFrame(t *testing.T) {
	for _, s := range shortAndLong(t) {
		for at := range 8 * len(s) {
			for _, p := range patterns() {
				altered := turned(s, at, p)
				if f, next, err := frame.Read(table, altered, 0); err == api.OK || next != 0 || len(f.Events) != 0 {
					t.Fatalf("from bit %d by %b: %v, %d, error %d", at, p, f, next, err)
				}
				if _, _, err := frame.Read(table, altered+s, 0); err == api.OK {
					t.Fatalf("from bit %d by %b, and a frame behind", at, p)
				}
			}
		}
	}
}

// A burst within 12 bits, by every pattern.
func TestBehindAShortBurstItIsNoFrame(t *testing.T) {
	s := halts(t, 0, 1)
	for at := range 8 * len(s) {
		for p := uint32(1); p < 1<<12; p += 2 {
			if f, _, err := frame.Read(table, turned(s, at, p), 0); err == api.OK {
				t.Fatalf("from bit %d by %b: %v", at, p, f)
			}
		}
	}
}

// A burst may lie in two frames: just those that have all their bytes as they were are read.
func TestTwoFramesBehindABurst(t *testing.T) {
	all := shortAndLong(t)
	for k, one := range all {
		other := all[(k+1)%len(all)]
		two := one + other
		for at := 8 * (len(one) - 9); at < 8*(len(one)+9); at++ {
			for _, p := range patterns() {
				altered := turned(two, at, p)
				_, _, err := frame.Read(table, altered, 0)
				if (err == api.OK) != (altered[:len(one)] == one) {
					t.Fatalf("from bit %d by %b: the first one: error %d", at, p, err)
				}
				_, _, err = frame.Read(table, altered, len(one))
				if (err == api.OK) != (altered[len(one):] == other) {
					t.Fatalf("from bit %d by %b: the second one: error %d", at, p, err)
				}
			}
		}
	}
}

// spread: within how many bits on end all lie by which two texts of one length part; 0, if they are the same.
func spread(s, u string) int {
	first, last := -1, -1
	for bit := range 8 * len(s) {
		if (s[bit/8]^u[bit/8])>>(bit%8)&1 == 1 {
			if first < 0 {
				first = bit
			}
			last = bit
		}
	}
	if first < 0 {
		return 0
	}
	return last - first + 1
}

func TestSpread(t *testing.T) {
	for _, p := range patterns() {
		n := 32
		for p>>(n-1) == 0 {
			n--
		}
		low := 0
		for p>>low&1 == 0 {
			low++
		}
		if got := spread(marker, turned(marker, 13, p)); got != n-low {
			t.Errorf("%b: %d, want %d", p, got, n-low)
		}
	}
	if got := spread(marker, marker); got != 0 {
		t.Errorf("of itself: %d", got)
	}
}

// spelling: a number whose bytes are these, as far as they go.
func spelling(s string) uint64 {
	var n uint64
	for k := range len(s) {
		n |= uint64(s[k]) << (7 * k)
	}
	return n
}

// nearMarkers: frames whose numbers and payloads have as many of the marker's bytes as they can.
func nearMarkers(t *testing.T) []string {
	name, rest := spelling("TAFRIL"), spelling("AFRIL")
	dev := api.Event{Kind: api.EDev, A: 15, B: 79, V: word}
	far := api.Event{Kind: api.EDev, Count: word, Cycle: word - 1<<31, A: 15, B: 79, V: word}
	// The steps and who are spelled RIL, and TAF.
	ril := api.Event{Kind: api.EPost, Count: 'R', Cycle: 45, A: 'L'}
	taf := api.Event{Kind: api.EPost, Count: 'T', Cycle: 51, A: 'F'}
	for want, e := range map[string]api.Event{"RIL": ril, "TAF": taf} {
		if s, _ := coil.Print([]api.Event{{Kind: api.EClose}, e}); !strings.Contains(s, want) {
			t.Fatalf("% x, want %s", s, want)
		}
	}
	var l []string
	for _, seq := range []uint64{0, word, spelling("TAFR"), spelling("L"), spelling("IL"), spelling("RIL"), spelling("FRIL"), rest & word} {
		for _, stamp := range []uint64{0, greatest, name, rest, name << 7, name << 21, spelling("L"), 1<<63 - 1} {
			for _, events := range [][]api.Event{{dev, dev}, {dev, far}, {dev, ril}, {dev, taf}, slices.Repeat([]api.Event{dev}, 12)} {
				last := events[len(events)-1]
				cycle, count := min(stamp, greatest-last.Cycle), min(stamp, greatest-last.Count)
				l = append(l, printed(t, api.Frame{Seq: uint32(seq), Events: from(events, cycle, count)}))
			}
		}
	}
	return l
}

// No burst can make a marker, where what parts the bytes from it lies in no 32 bits on end: so all bursts are asked at once.
func TestNoBurstMakesAMarker(t *testing.T) {
	all := append(nearMarkers(t), shortAndLong(t)...)
	for k, one := range all {
		for _, other := range []string{one, all[(k+1)%len(all)], all[(7*k+40)%len(all)]} {
			two := one + other
			for at := 0; at+len(marker) <= len(two); at++ {
				n := spread(two[at:at+len(marker)], marker)
				if stood := at == 0 || at == len(one); stood != (n == 0) || !stood && n <= 32 {
					t.Fatalf("% x: at %d a burst of %d bits makes a marker", two, at, n)
				}
			}
		}
	}
}

func TestMarkersBehindABurst(t *testing.T) {
	all := nearMarkers(t)
	for k := 0; k < len(all); k += 37 {
		one, other := all[k], all[(k+11)%len(all)]
		two := one + other
		for at := range 8 * len(two) {
			for _, p := range []uint32{1, 3, 0xff, 0x80000001, word, 0x8b4d5a17} {
				altered := turned(two, at, p)
				for place := 0; ; place++ {
					next := strings.Index(altered[place:], marker)
					if next < 0 {
						break
					}
					place += next
					if place != 0 && place != len(one) {
						t.Fatalf("from bit %d by %b: a marker at %d", at, p, place)
					}
				}
			}
		}
	}
}
