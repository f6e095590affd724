package sept_test

import (
	"math"
	"math/big"
	"math/bits"
	"strings"
	"testing"

	"taffrail/api"
	"taffrail/cursor"
	"taffrail/sept"
)

const greatest = math.MaxUint64

// wrongCounts: some below 1 and above 10; times seven some of them wrap round to a small number.
var wrongCounts = []int{
	0, -1, -2, -10, -127, math.MinInt, math.MinInt + 1, math.MinInt32, math.MinInt / 7,
	11, 12, 20, 64, 70, 127, 255, 256, 257, 1 << 32, 1<<32 + 1, math.MaxInt32, math.MaxInt / 7, math.MaxInt/7 + 1, math.MaxInt - 1, math.MaxInt,
}

// names: the errors that a call may answer, for what a failing test tells.
var names = map[api.Errno]string{
	api.OK: "OK", api.ErrArg: "ErrArg", api.ErrEnd: "ErrEnd", api.ErrForm: "ErrForm", api.ErrRange: "ErrRange", api.ErrNil: "ErrNil",
}

// put: what Put puts, and its answer.
func put(n uint64, count int) (string, api.Errno) {
	var w cursor.Writer
	e := sept.Put(&w, n, count)
	return w.String(), e
}

// spelled: the bytes that Put puts, where it must.
func spelled(t *testing.T, n uint64, count int) string {
	t.Helper()
	s, e := put(n, count)
	if e != api.OK {
		t.Fatalf("Put of %d by %d: %s", n, count, names[e])
	}
	return s
}

// seeker: a reader of s that stands at a place.
func seeker(t *testing.T, s string, at int) *cursor.Reader {
	t.Helper()
	r := cursor.New(s)
	if e := r.Seek(at); e != api.OK {
		t.Fatalf("Seek(%d) in %q: %d", at, s, e)
	}
	return r
}

// numbers: those up to 300, those beside each power of two and those with like groups.
func numbers() []uint64 {
	var l []uint64
	for n := range uint64(301) {
		l = append(l, n)
	}
	for k := range 64 {
		for d := range uint64(5) {
			l = append(l, 1<<k+d-2, greatest>>k-d)
		}
	}
	for b := range uint64(256) {
		l = append(l, b*0x0101010101010101, b*0x0101010101010101^0x00ff00ff00ff00ff)
	}
	return l
}

// spelling: a number's bytes by the words of the chapter, its bits as digits; and whether it has any.
func spelling(n uint64, count int) (string, bool) {
	if count < 1 || count > 10 {
		return "", false
	}
	digits := new(big.Int).SetUint64(n).Text(2)
	if n == 0 {
		digits = ""
	}
	if len(digits) > 7*count {
		return "", false
	}
	digits = strings.Repeat("0", 7*count-len(digits)) + digits
	var out []byte
	for at := len(digits) - 7; at >= 0; at -= 7 {
		v, _ := new(big.Int).SetString(digits[at:at+7], 2)
		out = append(out, byte(v.Int64()))
	}
	return string(out), true
}

// reading: what Get must answer of s, by the words of the chapter.
func reading(s string, count int) (uint64, api.Errno) {
	n, place := new(big.Int), big.NewInt(1)
	for k := range count {
		if k == len(s) {
			return 0, api.ErrEnd
		}
		if s[k] > 127 || k == 9 && s[k] > 1 {
			return 0, api.ErrForm
		}
		n.Add(n, new(big.Int).Mul(place, big.NewInt(int64(s[k]))))
		place.Mul(place, big.NewInt(128))
	}
	return n.Uint64(), api.OK
}

// checkGet: Get says of s what reading says, from a place amid other bytes too.
func checkGet(t *testing.T, s string, count int) {
	t.Helper()
	want, err := reading(s, count)
	for _, ahead := range []string{"", "\x80\x01"} {
		r := seeker(t, ahead+s, len(ahead))
		n, e := sept.Get(r, count)
		at := len(ahead)
		if err == api.OK {
			at += count
		}
		if n != want || e != err || r.At() != at {
			t.Errorf("Get of %x behind %x by %d: %d, %s at %d, not %d, %s at %d", s, ahead, count, n, names[e], r.At(), want, names[err], at)
		}
	}
}

func TestExamplesOfTheChapter(t *testing.T) {
	if s, e := put(300, 2); s != "\x2c\x02" || e != api.OK {
		t.Errorf("300 by 2: %x, %s", s, names[e])
	}
	if s, e := put(300, 3); s != "\x2c\x02\x00" || e != api.OK {
		t.Errorf("300 by 3: %x, %s", s, names[e])
	}
	for _, s := range []string{"\x2c\x02", "\x2c\x02\x00"} {
		r := cursor.New(s)
		if n, e := sept.Get(r, len(s)); n != 300 || e != api.OK || r.Left() != 0 {
			t.Errorf("%x: %d, %s, %d left", s, n, names[e], r.Left())
		}
	}
	if sept.Fits(128, 1) {
		t.Error("128 fits into one")
	}
	if s, e := put(128, 1); s != "" || e != api.ErrRange {
		t.Errorf("128 by 1: %x, %s", s, names[e])
	}
}

// P4.1

func TestFitsAtTheEdges(t *testing.T) {
	for count := 1; count <= 9; count++ {
		over := uint64(1) << (7 * count)
		for _, n := range []uint64{0, 1, over / 2, over - 2, over - 1} {
			if !sept.Fits(n, count) {
				t.Errorf("%d doesn't fit into %d", n, count)
			}
		}
		for _, n := range []uint64{over, over + 1, 2 * over, greatest - 1, greatest} {
			// Twice 2^63 is 0 again.
			if n != 0 && sept.Fits(n, count) {
				t.Errorf("%d fits into %d", n, count)
			}
		}
	}
	for _, n := range numbers() {
		if !sept.Fits(n, 10) {
			t.Errorf("%d doesn't fit into ten", n)
		}
	}
}

func TestNothingFitsIntoAWrongCount(t *testing.T) {
	for _, count := range wrongCounts {
		for _, n := range []uint64{0, 1, 127, 128, 300, greatest} {
			if sept.Fits(n, count) {
				t.Errorf("%d fits into %d", n, count)
			}
		}
	}
}

func TestPutByTheWords(t *testing.T) {
	for count := 1; count <= 10; count++ {
		for _, n := range numbers() {
			want, fits := spelling(n, count)
			if sept.Fits(n, count) != fits {
				t.Errorf("Fits of %d by %d: %v", n, count, !fits)
			}
			err := api.OK
			if !fits {
				err = api.ErrRange
			}
			if s, e := put(n, count); s != want || e != err {
				t.Errorf("Put of %d by %d: %x, %s, not %x, %s", n, count, s, names[e], want, names[err])
			}
		}
	}
}

func TestPutAtTheEdges(t *testing.T) {
	full := strings.Repeat("\x7f", 9)
	for _, c := range []struct {
		n     uint64
		count int
		s     string
		err   api.Errno
	}{
		{0, 1, "\x00", api.OK},
		{127, 1, "\x7f", api.OK},
		{128, 1, "", api.ErrRange},
		{greatest, 1, "", api.ErrRange},
		{128, 2, "\x00\x01", api.OK},
		{1<<14 - 1, 2, "\x7f\x7f", api.OK},
		{1 << 14, 2, "", api.ErrRange},
		{1<<63 - 1, 9, full, api.OK},
		{1 << 63, 9, "", api.ErrRange},
		{greatest, 9, "", api.ErrRange},
		{0, 10, strings.Repeat("\x00", 10), api.OK},
		{1<<63 - 1, 10, full + "\x00", api.OK},
		{1 << 63, 10, strings.Repeat("\x00", 9) + "\x01", api.OK},
		{greatest, 10, full + "\x01", api.OK},
	} {
		if s, e := put(c.n, c.count); s != c.s || e != c.err {
			t.Errorf("Put of %d by %d: %x, %s, not %x, %s", c.n, c.count, s, names[e], c.s, names[c.err])
		}
	}
}

func TestPutOfAWrongCount(t *testing.T) {
	for _, count := range wrongCounts {
		// The count's error is named ahead of the number's.
		for _, n := range []uint64{0, 1, 128, greatest} {
			if s, e := put(n, count); s != "" || e != api.ErrArg {
				t.Errorf("Put of %d by %d: %x, %s", n, count, s, names[e])
			}
		}
	}
}

func TestPutIntoNil(t *testing.T) {
	for _, count := range append([]int{1, 2, 10}, wrongCounts...) {
		for _, n := range []uint64{0, 300, greatest} {
			if e := sept.Put(nil, n, count); e != api.ErrNil {
				t.Errorf("Put of %d by %d into nil: %s", n, count, names[e])
			}
		}
	}
}

func TestPutGoesBehindWhatStandsThere(t *testing.T) {
	var w cursor.Writer
	w.Text("ab")
	if e := sept.Put(&w, 300, 2); e != api.OK || w.String() != "ab\x2c\x02" {
		t.Errorf("%s, %x", names[e], w.String())
	}
	if e := sept.Put(&w, 300, 1); e != api.ErrRange || w.String() != "ab\x2c\x02" {
		t.Errorf("%s, %x", names[e], w.String())
	}
	if e := sept.Put(&w, 300, 0); e != api.ErrArg || w.String() != "ab\x2c\x02" {
		t.Errorf("%s, %x", names[e], w.String())
	}
	sept.Sum(&w, 5)
	if w.String() != "ab\x2c\x02\x05\x00\x00\x00\x00" {
		t.Errorf("%x", w.String())
	}
}

func TestSumIsPutByFiveBytes(t *testing.T) {
	for _, c := range []struct {
		sum uint32
		s   string
	}{
		{0, "\x00\x00\x00\x00\x00"},
		{1, "\x01\x00\x00\x00\x00"},
		{128, "\x00\x01\x00\x00\x00"},
		{1<<28 - 1, "\x7f\x7f\x7f\x7f\x00"},
		{1 << 28, "\x00\x00\x00\x00\x01"},
		{1 << 31, "\x00\x00\x00\x00\x08"},
		{0xcbf43926, "\x26\x72\x50\x5f\x0c"},
		{math.MaxUint32, "\x7f\x7f\x7f\x7f\x0f"},
	} {
		var w cursor.Writer
		sept.Sum(&w, c.sum)
		if w.String() != c.s {
			t.Errorf("Sum of %x: %x, not %x", c.sum, w.String(), c.s)
		}
	}
	for _, n := range numbers() {
		var w cursor.Writer
		sept.Sum(&w, uint32(n))
		if want, _ := spelling(uint64(uint32(n)), 5); w.String() != want {
			t.Errorf("Sum of %x: %x, not %x", uint32(n), w.String(), want)
		}
	}
	sept.Sum(nil, 0)
	sept.Sum(nil, math.MaxUint32)
}

// P4.2

func TestGetOfAllShortTexts(t *testing.T) {
	checkGet(t, "", 1)
	checkGet(t, "", 2)
	checkGet(t, "", 10)
	for a := range 256 {
		for count := 1; count <= 3; count++ {
			checkGet(t, string([]byte{byte(a)}), count)
		}
		for b := range 256 {
			for count := 1; count <= 3; count++ {
				checkGet(t, string([]byte{byte(a), byte(b)}), count)
			}
		}
	}
}

// Each byte that matters at each place of each count, ahead of none, and of one that is right or wrong.
func TestGetOfEachPlace(t *testing.T) {
	edges := []byte{0, 1, 2, 63, 64, 126, 127, 128, 129, 255}
	for count := 1; count <= 10; count++ {
		for _, fill := range []byte{0, 1, 127, 128} {
			for k := range count {
				for _, b := range edges {
					s := []byte(strings.Repeat(string([]byte{fill}), count))
					if count == 10 && fill == 127 {
						s[9] = 1
					}
					s[k] = b
					checkGet(t, string(s), count)
					checkGet(t, string(s)+"\x7f", count)
					checkGet(t, string(s)+"\xff", count)
					checkGet(t, string(s[:count-1]), count)
					checkGet(t, string(s[:k]), count)
				}
			}
		}
	}
}

func TestGetAtTheEdges(t *testing.T) {
	full := strings.Repeat("\x7f", 9)
	for _, c := range []struct {
		s     string
		count int
		n     uint64
		err   api.Errno
	}{
		{"\x00", 1, 0, api.OK},
		{"\x7f", 1, 127, api.OK},
		{"\x80", 1, 0, api.ErrForm},
		{"\xff", 1, 0, api.ErrForm},
		{"", 1, 0, api.ErrEnd},
		{"\x7f", 2, 0, api.ErrEnd},
		{"\x80", 2, 0, api.ErrForm},
		{"\x7f\x80", 2, 0, api.ErrForm},
		{"\x7f\x80", 3, 0, api.ErrForm},
		{"\x7f\x00", 2, 127, api.OK},
		{"\x02", 1, 2, api.OK},
		{full, 9, 1<<63 - 1, api.OK},
		{full, 10, 0, api.ErrEnd},
		{full + "\x00", 10, 1<<63 - 1, api.OK},
		{full + "\x01", 10, greatest, api.OK},
		{full + "\x02", 10, 0, api.ErrForm},
		{full + "\x02", 9, 1<<63 - 1, api.OK},
		{full + "\x7f", 10, 0, api.ErrForm},
		{full + "\x80", 10, 0, api.ErrForm},
		{full + "\x81", 10, 0, api.ErrForm},
		{full + "\xff", 10, 0, api.ErrForm},
		{strings.Repeat("\x00", 9) + "\x01", 10, 1 << 63, api.OK},
		{strings.Repeat("\x00", 9) + "\x02", 10, 0, api.ErrForm},
	} {
		r := cursor.New(c.s)
		n, e := sept.Get(r, c.count)
		at := 0
		if c.err == api.OK {
			at = c.count
		}
		if n != c.n || e != c.err || r.At() != at {
			t.Errorf("Get of %x by %d: %d, %s at %d, not %d, %s at %d", c.s, c.count, n, names[e], r.At(), c.n, names[c.err], at)
		}
	}
}

func TestGetAtTheEndAndOneShort(t *testing.T) {
	text := strings.Repeat("\x01", 12)
	for count := 1; count <= 10; count++ {
		for at := range len(text) + 1 {
			r := seeker(t, text, at)
			n, e := sept.Get(r, count)
			if at+count <= len(text) {
				if e != api.OK || r.At() != at+count {
					t.Errorf("Get by %d with %d left: %s at %d", count, len(text)-at, names[e], r.At())
				}
			} else if n != 0 || e != api.ErrEnd || r.At() != at {
				t.Errorf("Get by %d with %d left: %d, %s at %d", count, len(text)-at, n, names[e], r.At())
			}
		}
	}
}

func TestGetOfAWrongCount(t *testing.T) {
	for _, count := range wrongCounts {
		// The count's error is named ahead of the bytes' ones.
		for _, s := range []string{"", "\x01", "\x80", strings.Repeat("\x01", 20), strings.Repeat("\xff", 20)} {
			for _, at := range []int{0, len(s) / 2, len(s)} {
				r := seeker(t, s, at)
				if n, e := sept.Get(r, count); n != 0 || e != api.ErrArg || r.At() != at {
					t.Errorf("Get of %x by %d: %d, %s at %d", s, count, n, names[e], r.At())
				}
			}
		}
	}
}

func TestGetOfNil(t *testing.T) {
	for _, count := range append([]int{1, 2, 10}, wrongCounts...) {
		if n, e := sept.Get(nil, count); n != 0 || e != api.ErrNil {
			t.Errorf("Get of nil by %d: %d, %s", count, n, names[e])
		}
	}
}

// Where one was refused, the next call goes on from there as if nothing had been.
func TestGetBehindAnError(t *testing.T) {
	r := cursor.New("\x05\x80")
	for _, count := range []int{2, 0, 11, 3, -1, 10} {
		if _, e := sept.Get(r, count); e == api.OK || r.At() != 0 {
			t.Errorf("by %d: %s at %d", count, names[e], r.At())
		}
	}
	if n, e := sept.Get(r, 1); n != 5 || e != api.OK || r.At() != 1 {
		t.Errorf("%d, %s at %d", n, names[e], r.At())
	}
	if n, e := sept.Get(r, 1); n != 0 || e != api.ErrForm || r.At() != 1 {
		t.Errorf("%d, %s at %d", n, names[e], r.At())
	}
}

// P4.3

func TestWhatIsPutIsGot(t *testing.T) {
	for _, behind := range []string{"", "\x00", "\x01", "\x80", "\xff\xff"} {
		for count := 1; count <= 10; count++ {
			for _, n := range numbers() {
				if !sept.Fits(n, count) {
					continue
				}
				r := cursor.New(spelled(t, n, count) + behind)
				if got, e := sept.Get(r, count); got != n || e != api.OK || r.At() != count {
					t.Errorf("%d by %d ahead of %x: %d, %s at %d", n, count, behind, got, names[e], r.At())
				}
			}
		}
	}
}

func TestOneBehindTheOther(t *testing.T) {
	var w cursor.Writer
	var n []uint64
	var count []int
	for k, m := range numbers() {
		if c := k%10 + 1; sept.Fits(m, c) {
			n, count = append(n, m), append(count, c)
			if e := sept.Put(&w, m, c); e != api.OK {
				t.Fatalf("%d by %d: %s", m, c, names[e])
			}
			sept.Sum(&w, uint32(m))
		}
	}
	r := cursor.New(w.String())
	for k := range n {
		if got, e := sept.Get(r, count[k]); got != n[k] || e != api.OK {
			t.Fatalf("%d by %d: %d, %s", n[k], count[k], got, names[e])
		}
		if got, e := sept.Get(r, 5); got != uint64(uint32(n[k])) || e != api.OK {
			t.Fatalf("the sum %d: %d, %s", uint32(n[k]), got, names[e])
		}
	}
	if r.Left() != 0 {
		t.Errorf("%d bytes are left", r.Left())
	}
}

// What is got is put again by the same bytes: so no other ones are read as that number.
func TestOneSpellingOfEachCount(t *testing.T) {
	for a := range 256 {
		for b := range 256 {
			for _, c := range []byte{0, 1, 2, 127, 128, 255} {
				s := string([]byte{byte(a), byte(b), c})
				for count := 1; count <= 3; count++ {
					if n, e := sept.Get(cursor.New(s), count); e == api.OK && spelled(t, n, count) != s[:count] {
						t.Errorf("%x is read as %d, which has %x", s[:count], n, spelled(t, n, count))
					}
				}
			}
		}
	}
	// A tenth byte with more bits than there is room for would spell a number again.
	for _, n := range numbers() {
		s := []byte(spelled(t, n, 10))
		for b := range 256 {
			s[9] = byte(b)
			if m, e := sept.Get(cursor.New(string(s)), 10); e == api.OK && spelled(t, m, 10) != string(s) {
				t.Errorf("%x is read as %d, which has %x", s, m, spelled(t, m, 10))
			}
		}
	}
}

func TestNoByteIsAbove127(t *testing.T) {
	for count := 1; count <= 10; count++ {
		for _, n := range numbers() {
			s, _ := put(n, count)
			for k := range len(s) {
				if s[k] > 127 {
					t.Errorf("%d by %d: %x", n, count, s)
				}
			}
		}
	}
}

// places: at which places of the bytes, each byte's lowest bit first, a bit is set.
func places(s string) []int {
	var l []int
	for k := range 8 * len(s) {
		if s[k/8]>>(k%8)&1 == 1 {
			l = append(l, k)
		}
	}
	return l
}

// A bit further up in the number stands further on in the bytes, and at least as far from any other.
func TestBitsStandInTheirOrder(t *testing.T) {
	for count := 1; count <= 10; count++ {
		prev := -1
		for k := range min(64, 7*count) {
			l := places(spelled(t, 1<<k, count))
			if len(l) != 1 || l[0] <= prev || l[0] != k+k/7 {
				t.Fatalf("bit %d by %d bytes stands at %v, the one below at %d", k, count, l, prev)
			}
			prev = l[0]
		}
	}
	for count := 1; count <= 10; count++ {
		for _, n := range numbers() {
			if !sept.Fits(n, count) {
				continue
			}
			var got uint64
			for _, at := range places(spelled(t, n, count)) {
				got |= 1 << (at - at/8)
			}
			if got != n {
				t.Errorf("%d by %d has the bits of %d", n, count, got)
			}
		}
	}
}

// span: within how many bits on end all set ones stand.
func span(n uint64) int { return bits.Len64(n) - bits.TrailingZeros64(n|1<<63) }

// Bits that are turned within so many on end of the bytes turn bits within no more of the number, or
// spell none.
func TestBurstsAreNoWiderInTheNumber(t *testing.T) {
	patterns := []uint64{1, 3, 5, 0x81, 0xff, 0x101, 0x1fff, 0x8001, 0xffff, 0x10001, 0x80000001, 0xffffffff, 0x7f7f7f7f, 0x8f0f7077}
	for _, n := range []uint64{0, 1, 300, 1<<32 - 1, 0x5555555555555555, 1<<63 - 1, greatest} {
		for count := 1; count <= 10; count++ {
			if !sept.Fits(n, count) {
				continue
			}
			for at := range 8 * count {
				for _, pattern := range patterns {
					checkBurst(t, n, count, at, pattern)
				}
			}
		}
	}
}

// checkBurst: the bits of pattern are turned, from the place at on.
func checkBurst(t *testing.T, n uint64, count, at int, pattern uint64) {
	t.Helper()
	s := []byte(spelled(t, n, count))
	for _, k := range places(string([]byte{byte(pattern), byte(pattern >> 8), byte(pattern >> 16), byte(pattern >> 24)})) {
		if at+k < 8*count {
			s[(at+k)/8] ^= 1 << ((at + k) % 8)
		}
	}
	got, e := sept.Get(cursor.New(string(s)), count)
	if e == api.OK && (got == n || span(got^n) > bits.Len64(pattern)) {
		t.Errorf("%d by %d, %x turned from %d on: %d", n, count, pattern, at, got)
	}
	if e != api.OK && e != api.ErrForm {
		t.Errorf("%d by %d, %x turned from %d on: %s", n, count, pattern, at, names[e])
	}
}
