package hunt_test

import (
	"hash/crc32"
	"math"
	"slices"
	"strings"
	"testing"
	"unsafe"

	"taffrail/api"
	"taffrail/crc"
	"taffrail/frame"
	"taffrail/hunt"
)

const (
	word   = math.MaxUint32
	marker = "\xff\xff\xff\xff\xff\xff\xff\xff\xff\xff\xff\xff\xff\xff\xff\xffTAFRIL"
)

var table = crc.Make()

// maker: a source of words that are the same in each run.
type maker uint32

func (m *maker) next() uint32 {
	*m ^= *m << 13
	*m ^= *m >> 17
	*m ^= *m << 5
	return uint32(*m)
}

// below: a number from 0 on, below n.
func (m *maker) below(n int) int { return int(m.next()>>3) % n }

// halts: so many events of four bytes each, which hang on the number.
func halts(seq uint32, n int) []api.Event {
	var l []api.Event
	for k := range n {
		l = append(l, api.Event{Kind: api.EHalt, Count: uint64(seq) + 5, Cycle: uint64(seq) + 200, A: (seq + uint32(k)) % 64})
	}
	return l
}

// bytesOf: the bytes of a frame with this number, of these events.
func bytesOf(t *testing.T, seq uint32, l []api.Event) string {
	t.Helper()
	s, err := frame.Print(table, api.Frame{Seq: seq, Events: l})
	if err != api.OK {
		t.Fatalf("Print(%d, %v): error %d", seq, l, err)
	}
	return s
}

// one: the bytes of a frame with this number, of one event: 63.
func one(t *testing.T, seq uint32) string { t.Helper(); return bytesOf(t, seq, halts(seq, 1)) }

// many: the bytes of a frame with this number, of 30 events: 179.
func many(t *testing.T, seq uint32) string { t.Helper(); return bytesOf(t, seq, halts(seq, 30)) }

// isOne, isMany and isGap: what is told of a frame by one or many, and of a gap.
func isOne(seq uint32) api.Item {
	return api.Item{Kind: api.IFrame, Seq: seq, Events: halts(seq, 1)}
}

func isMany(seq uint32) api.Item {
	return api.Item{Kind: api.IFrame, Seq: seq, Events: halts(seq, 30)}
}

func isGap(seq, lost uint32) api.Item { return api.Item{Kind: api.IGap, Seq: seq, Lost: lost} }

// claim: a header with right sums that says that a payload of so many bytes follows.
func claim(seq uint32, size int) string {
	head := "TAFRIL" + spelled(uint64(seq), 5) + spelled(0, 10) + spelled(0, 10) + spelled(uint64(size), 2)
	return marker[:16] + head + sum(head)
}

// spelled: a number by so many bytes, by the words of chapter 4.
func spelled(n uint64, count int) string {
	var b []byte
	for range count {
		b = append(b, byte(n%128))
		n /= 128
	}
	return string(b)
}

// sum: the sum of these bytes, by five bytes.
func sum(s string) string { return spelled(uint64(crc32.ChecksumIEEE([]byte(s))), 5) }

// endless: bytes whose sums are right around an event that is cut off: frame.Read answers ErrEnd, whatever follows.
func endless(seq uint32) string { return claim(seq, 3) + "\x16\x00\x00" + sum("\x16\x00\x00") }

// with: the bytes, the one at a place turned in one bit.
func with(s string, at int) string { return s[:at] + string([]byte{s[at] ^ 4}) + s[at+1:] }

func same(l, k []api.Item) bool {
	return slices.EqualFunc(l, k, func(a, b api.Item) bool {
		return a.Kind == b.Kind && a.Seq == b.Seq && a.Lost == b.Lost && slices.Equal(a.Events, b.Events)
	})
}

// stand is what the three calls that change nothing answer.
type stand struct{ next, skipped, lost uint64 }

func standOf(h *hunt.Hunter) stand { return stand{h.Next(), h.Skipped(), h.Lost()} }

// stands: fails, unless the hunter stands so.
func stands(t *testing.T, h *hunt.Hunter, next, skipped, lost uint64) {
	t.Helper()
	if got, want := standOf(h), (stand{next, skipped, lost}); got != want {
		t.Errorf("the hunter stands %v, not %v", got, want)
	}
}

// made: a hunter, where New must answer one.
func made(t *testing.T) *hunt.Hunter {
	t.Helper()
	h, err := hunt.New(table)
	if h == nil || err != api.OK {
		t.Fatalf("New: %v, error %d", h, err)
	}
	return h
}

// tells: fails, unless these items were told.
func tells(t *testing.T, got []api.Item, want ...api.Item) {
	t.Helper()
	if !same(got, want) {
		t.Errorf("told is %v, not %v", got, want)
	}
}

// model is a hunter by the chapter's words: it keeps all bytes, and its place.
type model struct {
	all                 string
	at, framed          int
	next, skipped, lost uint64
	closed              bool
}

func (m *model) stand() stand { return stand{m.next, m.skipped, m.lost} }

func (m *model) feed(s string) []api.Item {
	if m.closed {
		return nil
	}
	m.all += s
	return m.run()
}

func (m *model) close() []api.Item {
	if m.closed {
		return nil
	}
	m.closed = true
	return m.run()
}

// run: place by place, from where it waited on.
func (m *model) run() (told []api.Item) {
	for m.at < len(m.all) {
		f, behind, err := frame.Read(table, m.all, m.at)
		if err == api.ErrEnd && !m.closed {
			return told
		}
		if err != api.OK || uint64(f.Seq) < m.next {
			m.at++
			m.skipped++
			continue
		}
		if uint64(f.Seq) > m.next {
			told = append(told, isGap(uint32(m.next), f.Seq-uint32(m.next)))
			m.lost += uint64(f.Seq) - m.next
		}
		told = append(told, api.Item{Kind: api.IFrame, Seq: f.Seq, Events: f.Events})
		m.framed += behind - m.at
		m.next = uint64(f.Seq) + 1
		m.at = behind
	}
	return told
}

// holdParts: a hunter that is fed these parts, and closed then, tells behind each just what the model does, and stands so.
func holdParts(t *testing.T, parts ...string) []api.Item {
	t.Helper()
	h, m := made(t), &model{}
	var all []api.Item
	for k, s := range parts {
		got, want := h.Feed(s), m.feed(s)
		if !same(got, want) || standOf(h) != m.stand() {
			t.Fatalf("part %d of %x: told is %v, not %v; it stands %v, not %v", k, parts, got, want, standOf(h), m.stand())
		}
		all = append(all, got...)
	}
	got, want := h.Close(), m.close()
	if !same(got, want) || standOf(h) != m.stand() {
		t.Fatalf("%x, closed: told is %v, not %v; it stands %v, not %v", parts, got, want, standOf(h), m.stand())
	}
	if int(h.Skipped())+m.framed != len(m.all) {
		t.Fatalf("%x, closed: of %d bytes %d were skipped, and %d belong to frames", parts, len(m.all), h.Skipped(), m.framed)
	}
	return append(all, got...)
}

// everyByte: the bytes, each a part of its own.
func everyByte(s string) []string {
	var l []string
	for k := range len(s) {
		l = append(l, s[k:k+1])
	}
	return l
}

// pieces: the bytes in parts of so many.
func pieces(s string, n int) []string {
	var l []string
	for ; len(s) > n; s = s[n:] {
		l = append(l, s[:n])
	}
	return append(l, s)
}

// holdAnyhow: fed at once, byte by byte, parted at each place and in pieces of some sizes, all as the model tells it; what is told is these items.
func holdAnyhow(t *testing.T, s string, want ...api.Item) {
	t.Helper()
	parted := [][]string{{s}, {"", s, ""}, everyByte(s)}
	for at := range len(s) + 1 {
		parted = append(parted, []string{s[:at], s[at:]}, []string{s[:at], "", s[at:]})
	}
	for _, n := range []int{2, 3, 7, 22, 54, 62, 63, 64, 178, 179, 180, 500} {
		parted = append(parted, pieces(s, n))
	}
	for _, parts := range parted {
		if got := holdParts(t, parts...); !same(got, want) {
			t.Fatalf("%x: told is %v, not %v", parts, got, want)
		}
	}
}

func TestExampleOfTheChapter(t *testing.T) {
	for at := range 63 {
		s := one(t, 0) + one(t, 2) + with(one(t, 3), at) + one(t, 4)
		holdAnyhow(t, s, isOne(0), isGap(1, 1), isOne(2), isGap(3, 1), isOne(4))
		h := made(t)
		tells(t, h.Feed(s), isOne(0), isGap(1, 1), isOne(2), isGap(3, 1), isOne(4))
		stands(t, h, 5, 63, 2)
	}
}

// P9.1

func TestNew(t *testing.T) {
	if h, err := hunt.New(nil); h != nil || err != api.ErrNil {
		t.Errorf("no table: %v, error %d", h, err)
	}
	h := made(t)
	stands(t, h, 0, 0, 0)
	tells(t, h.Close())
	stands(t, h, 0, 0, 0)
}

func TestByEachTable(t *testing.T) {
	h, err := hunt.New(crc.Make())
	if err != api.OK {
		t.Fatal(err)
	}
	tells(t, h.Feed(one(t, 0)+many(t, 1)), isOne(0), isMany(1))
}

func TestTwoHunters(t *testing.T) {
	h, g := made(t), made(t)
	tells(t, h.Feed("x"+one(t, 3)[:40]))
	stands(t, g, 0, 0, 0)
	tells(t, g.Feed(one(t, 0)), isOne(0))
	tells(t, g.Close())
	stands(t, h, 0, 1, 0)
	tells(t, h.Feed(one(t, 3)[40:]), isGap(0, 3), isOne(3))
	stands(t, h, 4, 1, 3)
	stands(t, g, 1, 0, 0)
}

func TestNoBytes(t *testing.T) {
	holdAnyhow(t, "")
	h := made(t)
	for range 3 {
		tells(t, h.Feed(""))
		stands(t, h, 0, 0, 0)
	}
	tells(t, h.Feed(one(t, 0)), isOne(0))
	tells(t, h.Feed(""))
	tells(t, h.Feed(one(t, 1)[:30]))
	tells(t, h.Feed(""))
	stands(t, h, 1, 0, 0)
	tells(t, h.Feed(one(t, 1)[30:]), isOne(1))
	tells(t, h.Close())
	stands(t, h, 2, 0, 0)
}

func TestFramesOneBehindTheOther(t *testing.T) {
	holdAnyhow(t, one(t, 0), isOne(0))
	holdAnyhow(t, many(t, 0), isMany(0))
	holdAnyhow(t, one(t, 0)+one(t, 1)+one(t, 2), isOne(0), isOne(1), isOne(2))
	holdAnyhow(t, many(t, 0)+one(t, 1)+many(t, 2)+one(t, 3), isMany(0), isOne(1), isMany(2), isOne(3))
}

// TestEachEventsFrame: a frame of each count of events, and of numbers with all bits 1.
func TestEachEventsFrame(t *testing.T) {
	var s string
	var want []api.Item
	for k := range uint32(31) {
		l := halts(k, int(k))
		if k == 0 {
			l = slices.Repeat([]api.Event{{Kind: api.EDev, Count: math.MaxUint64, Cycle: math.MaxUint64, A: 15, B: 79, V: word}}, 12)
		}
		s += bytesOf(t, k, l)
		want = append(want, api.Item{Kind: api.IFrame, Seq: k, Events: l})
	}
	holdAnyhow(t, s, want...)
}

// TestManyFrames: as many as must be told at once, and each at once when it is there.
func TestManyFrames(t *testing.T) {
	var s strings.Builder
	var want []api.Item
	for k := range uint32(3000) {
		s.WriteString(one(t, k))
		want = append(want, isOne(k))
	}
	h := made(t)
	tells(t, h.Feed(s.String()), want...)
	stands(t, h, 3000, 0, 0)
	h = made(t)
	for k := range s.Len() {
		told := h.Feed(s.String()[k : k+1])
		if k%63 < 62 {
			tells(t, told)
		} else {
			tells(t, told, isOne(uint32(k/63)))
		}
	}
	stands(t, h, 3000, 0, 0)
}

// TestPartedAtEachTwoPlaces: three parts, by all places.
func TestPartedAtEachTwoPlaces(t *testing.T) {
	s := "x" + one(t, 1) + "\xff" + one(t, 2)
	for from := range len(s) + 1 {
		for to := from; to <= len(s); to++ {
			if got := holdParts(t, s[:from], s[from:to], s[to:]); !same(got, []api.Item{isGap(0, 1), isOne(1), isOne(2)}) {
				t.Fatalf("parted at %d and %d: %v", from, to, got)
			}
		}
	}
}

// TestSeq: which number may stand behind which, and what is told of it.
func TestSeq(t *testing.T) {
	numbers := []uint32{0, 1, 2, 3, 127, 128, 300, 1<<28 - 1, 1 << 28, 1<<31 - 1, 1 << 31, word - 2, word - 1, word}
	for _, a := range numbers {
		for _, b := range numbers {
			h := made(t)
			want := []api.Item{isOne(a)}
			if a > 0 {
				want = []api.Item{isGap(0, a), isOne(a)}
			}
			tells(t, h.Feed(one(t, a)), want...)
			stands(t, h, uint64(a)+1, 0, uint64(a))
			told := h.Feed(one(t, b))
			switch {
			case b <= a:
				tells(t, told)
				stands(t, h, uint64(a)+1, 63, uint64(a))
			case b == a+1:
				tells(t, told, isOne(b))
				stands(t, h, uint64(b)+1, 0, uint64(a))
			default:
				tells(t, told, isGap(a+1, b-a-1), isOne(b))
				stands(t, h, uint64(b)+1, 0, uint64(b)-1)
			}
			tells(t, h.Close())
		}
	}
}

// TestGreatestSeq: behind it no frame can be told any more.
func TestGreatestSeq(t *testing.T) {
	holdAnyhow(t, one(t, word), isGap(0, word), isOne(word))
	holdAnyhow(t, one(t, word-1)+one(t, word), isGap(0, word-1), isOne(word-1), isOne(word))
	h := made(t)
	tells(t, h.Feed(one(t, word)), isGap(0, word), isOne(word))
	stands(t, h, 1<<32, 0, word)
	for k, seq := range []uint32{0, 1, word - 1, word} {
		tells(t, h.Feed(one(t, seq)))
		stands(t, h, 1<<32, uint64(63*(k+1)), word)
	}
	tells(t, h.Feed(many(t, 0)))
	stands(t, h, 1<<32, 4*63+179, word)
	tells(t, h.Close())
	stands(t, h, 1<<32, 4*63+179, word)
}

func TestGaps(t *testing.T) {
	holdAnyhow(t, one(t, 1), isGap(0, 1), isOne(1))
	holdAnyhow(t, one(t, 300), isGap(0, 300), isOne(300))
	holdAnyhow(t, one(t, 2)+one(t, 3)+one(t, 5)+one(t, 9)+one(t, 10)+many(t, 1000), isGap(0, 2), isOne(2), isOne(3), isGap(4, 1), isOne(5), isGap(6, 3), isOne(9), isOne(10), isGap(11, 989), isMany(1000))
	h := made(t)
	tells(t, h.Feed(one(t, 2)+one(t, 3)+one(t, 5)), isGap(0, 2), isOne(2), isOne(3), isGap(4, 1), isOne(5))
	stands(t, h, 6, 0, 3)
	tells(t, h.Feed(one(t, 1<<20)), isGap(6, 1<<20-6), isOne(1<<20))
	stands(t, h, 1<<20+1, 0, 1<<20-3)
}

// TestNoGapWithoutAFrame: what isn't told leaves no gap by itself; one is told only ahead of a frame.
func TestNoGapWithoutAFrame(t *testing.T) {
	spoilt := with(one(t, 1), 40)
	holdAnyhow(t, one(t, 0)+spoilt, isOne(0))
	holdAnyhow(t, spoilt)
	holdAnyhow(t, one(t, 0)+spoilt+one(t, 1), isOne(0), isOne(1))
	holdAnyhow(t, one(t, 7)+one(t, 3)+one(t, 8), isGap(0, 7), isOne(7), isOne(8))
	holdAnyhow(t, one(t, 7)+one(t, 7)+many(t, 0)+one(t, 8), isGap(0, 7), isOne(7), isOne(8))
	holdAnyhow(t, one(t, 7)+one(t, 3)+one(t, 4), isGap(0, 7), isOne(7))
	h := made(t)
	tells(t, h.Feed(one(t, 0)+spoilt+with(one(t, 2), 60)), isOne(0))
	stands(t, h, 1, 126, 0)
	tells(t, h.Feed(one(t, 9)[:62]))
	tells(t, h.Close())
	stands(t, h, 1, 126+62, 0)
}

// TestBrokenOff: within a frame, at each place, it waits; then the bytes go on, or are closed.
func TestBrokenOff(t *testing.T) {
	for _, s := range []string{one(t, 1), many(t, 1)} {
		want := []api.Item{isGap(0, 1), isOne(1)}
		if len(s) > 63 {
			want = []api.Item{isGap(0, 1), isMany(1)}
		}
		for at := range len(s) {
			h := made(t)
			tells(t, h.Feed("ab"+one(t, 0)+s[:at]), isOne(0))
			stands(t, h, 1, 2, 0)
			tells(t, h.Feed(s[at:]), want[1])
			stands(t, h, 2, 2, 0)

			h = made(t)
			tells(t, h.Feed(s[:at]))
			stands(t, h, 0, 0, 0)
			tells(t, h.Close())
			stands(t, h, 0, uint64(at), 0)
			tells(t, h.Feed(s[at:]))
			tells(t, h.Feed(s))
			stands(t, h, 0, uint64(at), 0)

			// Broken off for good, and another frame behind: the first byte of its marker shows it, unless it is a payload's.
			holdParts(t, s[:at], s)
			holdParts(t, s[:at]+s[:at], s)
			h = made(t)
			told := append(h.Feed(s[:at]+s), h.Close()...)
			tells(t, told, want...)
			stands(t, h, 2, uint64(at), 1)
		}
	}
}

// TestByte255: where one begins no frame, it waits till that is to be seen.
func TestByte255(t *testing.T) {
	for n := 1; n <= 40; n++ {
		ones := strings.Repeat("\xff", n)
		holdAnyhow(t, ones)
		holdAnyhow(t, ones+one(t, 0), isOne(0))
		holdAnyhow(t, one(t, 0)+ones+one(t, 1), isOne(0), isOne(1))
		holdAnyhow(t, one(t, 0)+ones, isOne(0))
		holdAnyhow(t, ones+"TAFRIL"+one(t, 0), isOne(0))
		h := made(t)
		tells(t, h.Feed(ones))
		stands(t, h, 0, uint64(max(0, n-16)), 0)
		tells(t, h.Feed("x"))
		stands(t, h, 0, uint64(n+1), 0)
	}
}

// TestMarkerWithoutAFrame: whole, cut off, and with numbers behind it that aren't a header's.
func TestMarkerWithoutAFrame(t *testing.T) {
	h := made(t)
	tells(t, h.Feed(marker))
	stands(t, h, 0, 0, 0)
	tells(t, h.Feed("\x80"))
	stands(t, h, 0, 23, 0)
	tells(t, h.Feed(marker+strings.Repeat("\x00", 31)))
	stands(t, h, 0, 23+53, 0)
	tells(t, h.Feed(marker))
	stands(t, h, 0, 23+53, 0)
	tells(t, h.Close())
	stands(t, h, 0, 23+53+22, 0)

	for _, behind := range []string{"", "x", "\xff", marker, marker[:21], strings.Repeat("\x00", 32), strings.Repeat("\x7f", 32), "\x00\x00\x00\x00\x10" + strings.Repeat("\x00", 27), claim(0, 0)[22:], claim(0, 121)[22:]} {
		holdAnyhow(t, marker+behind)
		holdAnyhow(t, one(t, 0)+marker+behind, isOne(0))
		holdAnyhow(t, marker+behind+one(t, 0), isOne(0))
		holdAnyhow(t, one(t, 0)+marker+behind+many(t, 2), isOne(0), isGap(1, 1), isMany(2))
	}
}

// TestJunk: bytes that are no frame, ahead, between and behind.
func TestJunk(t *testing.T) {
	junk := []string{"", "x", "junk", "TAFRIL", "\x00\x00\x00", one(t, 1)[16:], one(t, 1)[1:], one(t, 1)[54:], strings.Repeat("\xfe", 200), "\xff", "\xff\xff", "a\xffb", marker[:16], marker[1:], marker, one(t, 5)[:53], with(one(t, 5), 57)}
	for _, ahead := range junk {
		for _, between := range junk {
			for _, behind := range junk {
				s := ahead + one(t, 1) + between + one(t, 2) + behind
				want := []api.Item{isGap(0, 1), isOne(1), isOne(2)}
				h := made(t)
				tells(t, append(h.Feed(s), h.Close()...), want...)
				stands(t, h, 3, uint64(len(s)-126), 1)
				for _, parts := range [][]string{{s}, everyByte(s), pieces(s, 10)} {
					if got := holdParts(t, parts...); !same(got, want) {
						t.Fatalf("%x: %v", s, got)
					}
				}
			}
		}
	}
	for _, s := range junk {
		holdAnyhow(t, s)
		holdAnyhow(t, s+many(t, 0)+s+one(t, 3)+s, isMany(0), isGap(1, 2), isOne(3))
	}
}

// TestEachByteOfAllKinds: no byte but 255 can begin a frame, so it doesn't wait for more.
func TestEachByteOfAllKinds(t *testing.T) {
	h := made(t)
	for b := range 255 {
		tells(t, h.Feed(string([]byte{byte(b)})))
		stands(t, h, 0, uint64(b+1), 0)
	}
	tells(t, h.Feed("\xff"))
	stands(t, h, 0, 255, 0)
	tells(t, h.Close())
	stands(t, h, 0, 256, 0)
}

func TestBehindAClose(t *testing.T) {
	for _, s := range []string{"", "x", "\xff", marker, one(t, 0), one(t, 0) + one(t, 2), one(t, 0)[:62], "x" + one(t, 5)[:10], endless(0) + one(t, 0)} {
		h := made(t)
		h.Feed(s)
		h.Close()
		was := standOf(h)
		for _, more := range []string{"", "x", "\xff", one(t, 0), one(t, 3), one(t, 0)[62:], many(t, 10), one(t, word)} {
			tells(t, h.Feed(more))
			tells(t, h.Close())
			if standOf(h) != was {
				t.Errorf("%x, closed, then fed %x: %v, was %v", s, more, standOf(h), was)
			}
		}
	}
}

// TestToldByClose: a frame within the payload that a header says is seen only when no more bytes come, or when they are no payload.
func TestToldByClose(t *testing.T) {
	inside := claim(0, 120) + one(t, 0)
	holdAnyhow(t, inside, isOne(0))
	holdAnyhow(t, inside+one(t, 2), isOne(0), isGap(1, 1), isOne(2))
	h := made(t)
	tells(t, h.Feed(inside))
	stands(t, h, 0, 0, 0)
	tells(t, h.Close(), isOne(0))
	stands(t, h, 1, 54, 0)

	h = made(t)
	tells(t, h.Feed(inside+strings.Repeat("x", 61)))
	tells(t, h.Feed("x"), isOne(0))
	stands(t, h, 1, 54+62, 0)

	h = made(t)
	tells(t, h.Feed(one(t, 0)+claim(1, 120)+one(t, 4)[:60]), isOne(0))
	tells(t, h.Close())
	stands(t, h, 1, 54+60, 0)

	h = made(t)
	tells(t, h.Feed(claim(0, 120)+one(t, 3)+"y"))
	tells(t, h.Close(), isGap(0, 3), isOne(3))
	stands(t, h, 4, 55, 3)
}

// TestEndless: where frame.Read answers ErrEnd, whatever follows, it waits till it is closed.
func TestEndless(t *testing.T) {
	if _, _, err := frame.Read(table, endless(0)+many(t, 0)+many(t, 1), 0); err != api.ErrEnd {
		t.Fatalf("error %d", err)
	}
	holdAnyhow(t, endless(0))
	holdAnyhow(t, endless(0)+one(t, 0), isOne(0))
	holdAnyhow(t, one(t, 0)+endless(1)+many(t, 1)+"x"+one(t, 4)+endless(5)+one(t, 5), isOne(0), isMany(1), isGap(2, 2), isOne(4), isOne(5))
	h := made(t)
	tells(t, h.Feed(one(t, 0)+"x"+endless(1)), isOne(0))
	for k := range uint32(20) {
		tells(t, h.Feed(one(t, 2*k)))
		stands(t, h, 1, 1, 0)
	}
	var want []api.Item
	for k := range uint32(19) {
		want = append(want, isGap(2*k+1, 1), isOne(2*k+2))
	}
	tells(t, h.Close(), want...)
	stands(t, h, 39, 1+62+63, 19)
}

// TestLongWait: even so far behind the place where it waits, each byte is gone through in the end.
func TestLongWait(t *testing.T) {
	h := made(t)
	tells(t, h.Feed(endless(0)))
	const n = 1 << 18
	for range n {
		if told := h.Feed("\xff"); len(told) > 0 || h.Skipped() > 0 {
			t.Fatal(told, h.Skipped())
		}
	}
	tells(t, h.Feed(one(t, 0)))
	tells(t, h.Close(), isOne(0))
	stands(t, h, 1, 62+n, 0)
}

// TestNotFramesAgain: a frame that was told is gone, and its bytes aren't looked at again.
func TestNotFramesAgain(t *testing.T) {
	h := made(t)
	s := one(t, 0)
	tells(t, h.Feed(s), isOne(0))
	tells(t, h.Feed(s))
	stands(t, h, 1, 63, 0)
	tells(t, h.Feed(s[:40]))
	tells(t, h.Feed(s[40:]+one(t, 1)), isOne(1))
	stands(t, h, 2, 126, 0)
}

// TestAnswersAreNewMemory: who is told may change what was told, and nothing else changes by it.
func TestAnswersAreNewMemory(t *testing.T) {
	h := made(t)
	s := many(t, 0) + many(t, 2) + many(t, 3)
	told := h.Feed(s + many(t, 4)[:100])
	want := []api.Item{isMany(0), isGap(1, 1), isMany(2), isMany(3)}
	tells(t, told, want...)
	for k := range told {
		clear(told[k].Events)
		_ = append(told[k].Events, api.Event{Kind: 99})
		for j := k + 1; j < len(told); j++ {
			tells(t, told[j:j+1], want[j])
		}
		told[k] = api.Item{Kind: 99}
	}
	_ = append(told, api.Item{Kind: 98})
	later := h.Feed(many(t, 4)[100:])
	tells(t, later, isMany(4))
	tells(t, told[:1], api.Item{Kind: 99})
	clear(later)
	stands(t, h, 5, 0, 1)
	tells(t, made(t).Feed(s), want...)
}

// TestBytesAreNotKept: the memory of a text that was fed may become another one.
func TestBytesAreNotKept(t *testing.T) {
	h := made(t)
	b := []byte(one(t, 0) + one(t, 1)[:50])
	told := h.Feed(unsafe.String(&b[0], len(b)))
	clear(b)
	tells(t, told, isOne(0))
	c := []byte(one(t, 1)[50:60])
	tells(t, h.Feed(unsafe.String(&c[0], len(c))))
	clear(c)
	tells(t, h.Feed(one(t, 1)[60:]), isOne(1))
	stands(t, h, 2, 0, 0)
}

// P9.3

func TestNil(t *testing.T) {
	var h *hunt.Hunter
	for range 2 {
		for _, s := range []string{"", "x", one(t, 0), many(t, 7)} {
			tells(t, h.Feed(s))
			stands(t, h, 0, 0, 0)
		}
		tells(t, h.Close())
		stands(t, h, 0, 0, 0)
	}
}

// P9.4

// stream: bytes of pieces that frames, cut, altered, low and endless ones, markers and junk are chosen from.
func stream(t *testing.T, m *maker, count int) string {
	var b strings.Builder
	seq := uint32(0)
	for range count {
		seq += uint32(m.below(3))
		s := bytesOf(t, seq, halts(seq, 1+m.below(4)))
		switch m.below(14) {
		case 0:
			s = s[:m.below(len(s))]
		case 1:
			s = with(s, m.below(len(s)))
		case 2:
			s = s[m.below(len(s)):]
		case 3:
			s = marker[m.below(16):]
		case 4:
			s = strings.Repeat("\xff", m.below(20))
		case 5:
			s = "junk"[:m.below(5)]
		case 6:
			s = claim(seq, 1+m.below(120))
		case 7:
			s = one(t, uint32(m.below(3)))
		case 8:
			if m.below(4) == 0 {
				s = endless(seq)
			}
		}
		b.WriteString(s)
	}
	return b.String()
}

// cut: the bytes in parts of made lengths, of none and of one among them.
func cut(m *maker, s string) []string {
	most := []int{3, 20, 200, 1000}[m.below(4)]
	var l []string
	for len(s) > 0 {
		n := min(m.below(most), len(s))
		l = append(l, s[:n])
		s = s[n:]
	}
	return l
}

// TestMadeStreams: whatever comes, it tells what the model does, and the same however the bytes are parted.
func TestMadeStreams(t *testing.T) {
	m := maker(9)
	for range 1500 {
		s := stream(t, &m, 1+m.below(25))
		want := holdParts(t, s)
		for range 4 {
			if got := holdParts(t, cut(&m, s)...); !same(got, want) {
				t.Fatalf("%x: %v, and at once %v", s, got, want)
			}
		}
		if got := holdParts(t, everyByte(s)...); !same(got, want) {
			t.Fatalf("%x: %v, and at once %v", s, got, want)
		}
	}
}

// turned: the bytes, turned from a bit on by a pattern, whose bits beyond the end are left out.
func turned(s string, at int, pattern uint32) string {
	b := []byte(s)
	for ; pattern != 0 && at < 8*len(b); pattern >>= 1 {
		b[at/8] ^= byte(pattern&1) << (at % 8)
		at++
	}
	return string(b)
}

// patterns: bursts of each length, by their ends alone, by all bits, and by made ones.
func patterns() []uint32 {
	l := []uint32{1}
	m := maker(5)
	for n := 2; n <= 32; n++ {
		ends := uint32(1)<<(n-1) | 1
		all := uint32(1<<n - 1)
		l = append(l, ends, all, all&m.next()|ends)
	}
	// What the sums are xored with, and bytes that could be turned into 255.
	return append(l, 0xedb88320|1, 0x04c11db7, 0x83838383, 0x8d8b8b8b)
}

// part is some bytes, and whether they are a frame's.
type part struct {
	s     string
	seq   uint32
	frame bool
}

// holdBurst: of these parts behind a burst just those frames are told that have all their bytes as they were.
func holdBurst(t *testing.T, parts []part, at int, pattern uint32) {
	t.Helper()
	var all string
	for _, p := range parts {
		all += p.s
	}
	altered := turned(all, at, pattern)
	var want []api.Item
	from, framed := 0, 0
	var next, lost uint64
	for _, p := range parts {
		to := from + len(p.s)
		if p.frame && altered[from:to] == p.s {
			if seq := uint64(p.seq); seq > next {
				want = append(want, isGap(uint32(next), uint32(seq-next)))
				lost += seq - next
			}
			f, _, _ := frame.Read(table, p.s, 0)
			want = append(want, api.Item{Kind: api.IFrame, Seq: p.seq, Events: f.Events})
			next = uint64(p.seq) + 1
			framed += len(p.s)
		}
		from = to
	}
	half := (at*7 + int(pattern%64)) % (len(all) + 1)
	for _, pieces := range [][]string{{altered}, {altered[:half], altered[half:]}} {
		h := made(t)
		var told []api.Item
		for _, s := range pieces {
			told = append(told, h.Feed(s)...)
		}
		told = append(told, h.Close()...)
		if !same(told, want) || standOf(h) != (stand{next, uint64(len(all) - framed), lost}) {
			t.Fatalf("%x from bit %d by %b: told is %v, not %v; it stands %v", all, at, pattern, told, want, standOf(h))
		}
	}
}

func (p part) behind(junk string) []part { return []part{{s: junk}, p} }

func TestBehindABurst(t *testing.T) {
	dev := api.Event{Kind: api.EDev, Count: math.MaxUint64, Cycle: math.MaxUint64, A: 15, B: 79, V: word}
	first, second := part{one(t, 0), 0, true}, part{bytesOf(t, 1, []api.Event{dev, dev}), 1, true}
	third, fourth := part{one(t, 4), 4, true}, part{many(t, word), word, true}
	for _, parts := range [][]part{
		{first},
		{first, second, third},
		{third, fourth},
		slices.Concat(first.behind("ahead"), second.behind("\x00"), third.behind("TAFRIL"), []part{{s: "\x7f\x7f\x7f\x7f"}}),
		slices.Concat(second.behind("\x7f\x7f\x7f\x7f\x7fTAFRIL"), third.behind("\x7f\x7f\x7f\x7f\x7f\x7f\x7f"), []part{{s: "\xfe\xfe"}}),
	} {
		size := 0
		for _, p := range parts {
			size += len(p.s)
		}
		for at := range 8 * size {
			for _, p := range patterns() {
				holdBurst(t, parts, at, p)
			}
		}
	}
}
