package leb_test

import (
	"encoding/binary"
	"math"
	"math/big"
	"strings"
	"testing"

	"taffrail/api"
	"taffrail/cursor"
	"taffrail/leb"
)

const greatest = math.MaxUint64

// ff: so many bytes 255.
func ff(n int) string { return strings.Repeat("\xff", n) }

// put: what Put puts.
func put(n uint64) string {
	var w cursor.Writer
	leb.Put(&w, n)
	return w.String()
}

// putInt: what PutInt puts.
func putInt(n int64) string {
	var w cursor.Writer
	leb.PutInt(&w, n)
	return w.String()
}

// seeker: a reader of s that stands at a place.
func seeker(t *testing.T, s string, at int) *cursor.Reader {
	t.Helper()
	r := cursor.New(s)
	if e := r.Seek(at); e != api.OK {
		t.Fatalf("Seek(%d) in %q: %d", at, s, e)
	}
	return r
}

// numbers: those up to 300, those beside each power of two, and those with like groups, each once.
func numbers() []uint64 {
	seen := map[uint64]bool{}
	var l []uint64
	add := func(n uint64) {
		if !seen[n] {
			seen[n] = true
			l = append(l, n)
		}
	}
	for n := range uint64(301) {
		add(n)
	}
	for k := range 64 {
		for d := range uint64(5) {
			add(1<<k + d - 2)
			add(greatest>>k - d)
		}
	}
	for b := range uint64(256) {
		add(b * 0x0101010101010101)
		add(b*0x0101010101010101 ^ 0x00ff00ff00ff00ff)
	}
	return l
}

// signed: numbers of both signs, near 0 and near both ends among them.
func signed() []int64 {
	var l []int64
	for _, n := range numbers() {
		l = append(l, int64(n), -int64(n), math.MinInt64+int64(n))
	}
	return l
}

// spelling: a number's bytes by the words of the chapter, its bits as digits.
func spelling(n uint64) string {
	digits := new(big.Int).SetUint64(n).Text(2)
	for len(digits)%7 != 0 {
		digits = "0" + digits
	}
	var out []byte
	for at := len(digits) - 7; at >= 0; at -= 7 {
		v, _ := new(big.Int).SetString(digits[at:at+7], 2)
		b := byte(v.Int64())
		if at > 0 {
			b += 128
		}
		out = append(out, b)
	}
	return string(out)
}

// reading: what Get must answer of s, and how many bytes it must go on. A text of which no beginning is a
// number's bytes either begins some number's (then it ends too early), or it doesn't.
func reading(s string) (uint64, int, api.Errno) {
	if n, k := binary.Uvarint([]byte(s)); k > 0 && string(binary.AppendUvarint(nil, n)) == s[:k] {
		return n, k, api.OK
	}
	for i := range len(s) {
		if s[i] < 128 || i == 9 {
			return 0, 0, api.ErrForm
		}
	}
	return 0, 0, api.ErrEnd
}

// checkGet: Get, GetInt and Most say of s what reading says, from a place amid other bytes too.
func checkGet(t *testing.T, s string) {
	t.Helper()
	want, k, err := reading(s)
	for _, ahead := range []string{"", "\x80\x80"} {
		r := seeker(t, ahead+s, len(ahead))
		n, e := leb.Get(r)
		if n != want || e != err || r.At() != len(ahead)+k {
			t.Errorf("Get of %x behind %x: %d, %d at %d, not %d, %d", s, ahead, n, e, r.At(), want, err)
		}
		r = seeker(t, ahead+s, len(ahead))
		n, e = leb.Most(r, greatest)
		if n != want || e != err || r.At() != len(ahead)+k {
			t.Errorf("Most of %x behind %x: %d, %d at %d, not %d, %d", s, ahead, n, e, r.At(), want, err)
		}
		r = seeker(t, ahead+s, len(ahead))
		i, e := leb.GetInt(r)
		if i != leb.Unfold(want) || e != err || r.At() != len(ahead)+k {
			t.Errorf("GetInt of %x behind %x: %d, %d at %d, not %d, %d", s, ahead, i, e, r.At(), leb.Unfold(want), err)
		}
	}
}

func TestExamplesOfTheChapter(t *testing.T) {
	if s := put(300); s != "\xac\x02" {
		t.Errorf("300: %x", s)
	}
	for _, c := range []struct {
		s   string
		err api.Errno
	}{{"\x80\x00", api.ErrForm}, {"\x80", api.ErrEnd}} {
		if n, e := leb.Get(cursor.New(c.s)); n != 0 || e != c.err {
			t.Errorf("Get of %x: %d, %d", c.s, n, e)
		}
	}
	if leb.Fold(-1) != 1 || leb.Fold(1) != 2 {
		t.Errorf("Fold: %d, %d", leb.Fold(-1), leb.Fold(1))
	}
}

// P2.1

func TestSizeAndPutAtTheEdges(t *testing.T) {
	for _, c := range []struct {
		n uint64
		s string
	}{
		{0, "\x00"},
		{1, "\x01"},
		{127, "\x7f"},
		{128, "\x80\x01"},
		{129, "\x81\x01"},
		{255, "\xff\x01"},
		{256, "\x80\x02"},
		{1<<14 - 1, "\xff\x7f"},
		{1 << 14, "\x80\x80\x01"},
		{1<<32 - 1, "\xff\xff\xff\xff\x0f"},
		{1 << 32, "\x80\x80\x80\x80\x10"},
		{1<<63 - 1, ff(8) + "\x7f"},
		{1 << 63, strings.Repeat("\x80", 9) + "\x01"},
		{greatest, ff(9) + "\x01"},
	} {
		if s := put(c.n); s != c.s {
			t.Errorf("Put of %d: %x, not %x", c.n, s, c.s)
		}
		if k := leb.Size(c.n); k != len(c.s) {
			t.Errorf("Size of %d: %d, not %d", c.n, k, len(c.s))
		}
	}
}

func TestSizeAndPutByTheWords(t *testing.T) {
	for _, n := range numbers() {
		want := spelling(n)
		if s := put(n); s != want {
			t.Errorf("Put of %d: %x, not %x", n, s, want)
		}
		if k := leb.Size(n); k != len(want) {
			t.Errorf("Size of %d: %d, not %d", n, k, len(want))
		}
	}
}

func TestPutPutsBehind(t *testing.T) {
	var w cursor.Writer
	w.Text("a")
	leb.Put(&w, 300)
	leb.PutInt(&w, -1)
	leb.Put(&w, 0)
	w.Text("b")
	if w.String() != "a\xac\x02\x01\x00b" {
		t.Errorf("%x", w.String())
	}
}

// P2.2

func TestGetAtTheEdges(t *testing.T) {
	for _, c := range []struct {
		s   string
		n   uint64
		at  int
		err api.Errno
	}{
		{"", 0, 0, api.ErrEnd},
		{"\x00", 0, 1, api.OK},
		{"\x00\x00", 0, 1, api.OK},
		{"\x7f", 127, 1, api.OK},
		{"\x80", 0, 0, api.ErrEnd},
		{"\x80\x01", 128, 2, api.OK},
		{"\x80\x00", 0, 0, api.ErrForm},
		{"\x81\x00\x01", 0, 0, api.ErrForm},
		{"\x80\x80\x00", 0, 0, api.ErrForm},
		{"\x80\x80\x80", 0, 0, api.ErrEnd},
		{"\x80\x80\x01\x02", 1 << 14, 3, api.OK},
		{ff(8) + "\x7f\x00", 1<<63 - 1, 9, api.OK},
		{ff(8) + "\x00", 0, 0, api.ErrForm},
		{ff(9), 0, 0, api.ErrEnd},
		{ff(9) + "\x00", 0, 0, api.ErrForm},
		{ff(9) + "\x01", greatest, 10, api.OK},
		{ff(9) + "\x01\xff", greatest, 10, api.OK},
		{ff(9) + "\x02", 0, 0, api.ErrForm},
		{ff(9) + "\x7f", 0, 0, api.ErrForm},
		{ff(9) + "\x80", 0, 0, api.ErrForm},
		{ff(9) + "\x81", 0, 0, api.ErrForm},
		{ff(9) + "\x81\x00", 0, 0, api.ErrForm},
		{ff(10), 0, 0, api.ErrForm},
		{ff(100), 0, 0, api.ErrForm},
		{strings.Repeat("\x80", 9) + "\x01", 1 << 63, 10, api.OK},
		{strings.Repeat("\x80", 9) + "\x02", 0, 0, api.ErrForm},
		{strings.Repeat("\x80", 10) + "\x01", 0, 0, api.ErrForm},
	} {
		r := cursor.New(c.s)
		n, e := leb.Get(r)
		if n != c.n || e != c.err || r.At() != c.at {
			t.Errorf("Get of %x: %d, %d at %d, not %d, %d at %d", c.s, n, e, r.At(), c.n, c.err, c.at)
		}
		checkGet(t, c.s)
	}
}

func TestGetOfAllSmallTexts(t *testing.T) {
	checkGet(t, "")
	for a := range 256 {
		checkGet(t, string([]byte{byte(a)}))
		for b := range 256 {
			checkGet(t, string([]byte{byte(a), byte(b)}))
		}
	}
	edges := []string{"\x00", "\x01", "\x02", "\x7f", "\x80", "\x81", "\xff"}
	texts := []string{""}
	for range 5 {
		var next []string
		for _, s := range texts {
			for _, b := range edges {
				next = append(next, s+b)
			}
		}
		for _, s := range next {
			checkGet(t, s)
		}
		texts = next
	}
}

func TestGetOfEachByteAtEachPlace(t *testing.T) {
	for k := range 12 {
		for b := range 256 {
			for _, ahead := range []string{"\x80", "\xff", "\xc1"} {
				s := strings.Repeat(ahead, k) + string([]byte{byte(b)})
				checkGet(t, s)
				checkGet(t, s+"\x01")
			}
		}
	}
}

func TestMost(t *testing.T) {
	for _, c := range []struct {
		s       string
		most, n uint64
		at      int
		err     api.Errno
	}{
		{"\x00", 0, 0, 1, api.OK},
		{"\x01", 0, 0, 0, api.ErrRange},
		{"\x05", 4, 0, 0, api.ErrRange},
		{"\x05", 5, 5, 1, api.OK},
		{"\x05", 6, 5, 1, api.OK},
		{"\xac\x02\x01", 299, 0, 0, api.ErrRange},
		{"\xac\x02\x01", 300, 300, 2, api.OK},
		{"\xff\xff\xff\xff\x0f", 1<<32 - 1, 1<<32 - 1, 5, api.OK},
		{"\x80\x80\x80\x80\x10", 1<<32 - 1, 0, 0, api.ErrRange},
		{ff(9) + "\x01", greatest, greatest, 10, api.OK},
		{ff(9) + "\x01", greatest - 1, 0, 0, api.ErrRange},
		{ff(9) + "\x01", 0, 0, 0, api.ErrRange},
		// Get's errors come ahead of the range.
		{"", 0, 0, 0, api.ErrEnd},
		{"\xff", 0, 0, 0, api.ErrEnd},
		{"\xff\x00", 0, 0, 0, api.ErrForm},
		{ff(9) + "\x02", 0, 0, 0, api.ErrForm},
	} {
		for _, ahead := range []string{"", "\x80"} {
			r := seeker(t, ahead+c.s, len(ahead))
			n, e := leb.Most(r, c.most)
			if n != c.n || e != c.err || r.At() != len(ahead)+c.at {
				t.Errorf("Most(%d) of %x: %d, %d at %d, not %d, %d at %d", c.most, c.s, n, e, r.At(), c.n, c.err, len(ahead)+c.at)
			}
		}
	}
}

// A reader that an error left where it stood reads on from there.
func TestBehindAnError(t *testing.T) {
	r := cursor.New("\xac\x02\x07")
	if _, e := leb.Most(r, 299); e != api.ErrRange {
		t.Errorf("Most: %d", e)
	}
	for _, want := range []uint64{300, 7} {
		if n, e := leb.Get(r); n != want || e != api.OK {
			t.Errorf("Get: %d, %d, not %d", n, e, want)
		}
	}
	for range 2 {
		if _, e := leb.Get(r); e != api.ErrEnd || r.At() != 3 {
			t.Errorf("Get at the end: %d at %d", e, r.At())
		}
	}
	r = cursor.New("\x81\x00")
	leb.Get(r)
	leb.GetInt(r)
	if b, e := r.Byte(); b != 0x81 || e != api.OK {
		t.Errorf("Byte: %d, %d", b, e)
	}
}

func TestNil(t *testing.T) {
	if n, e := leb.Get(nil); n != 0 || e != api.ErrNil {
		t.Errorf("Get: %d, %d", n, e)
	}
	if n, e := leb.GetInt(nil); n != 0 || e != api.ErrNil {
		t.Errorf("GetInt: %d, %d", n, e)
	}
	for _, most := range []uint64{0, greatest} {
		if n, e := leb.Most(nil, most); n != 0 || e != api.ErrNil {
			t.Errorf("Most(%d): %d, %d", most, n, e)
		}
	}
	var w *cursor.Writer
	for _, n := range []uint64{0, 127, 128, greatest} {
		leb.Put(w, n)
		leb.PutInt(w, int64(n))
	}
	if w.Len() != 0 || w.String() != "" {
		t.Errorf("a nil writer has %x", w.String())
	}
}

// P2.3

func TestFoldAtTheEdges(t *testing.T) {
	for _, c := range []struct {
		n int64
		f uint64
	}{
		{0, 0},
		{-1, 1},
		{1, 2},
		{-2, 3},
		{2, 4},
		{-3, 5},
		{63, 126},
		{-64, 127},
		{64, 128},
		{-1 << 31, 1<<32 - 1},
		{1<<31 - 1, 1<<32 - 2},
		{1 << 31, 1 << 32},
		{math.MinInt64 + 1, greatest - 2},
		{math.MaxInt64, greatest - 1},
		{math.MinInt64, greatest},
	} {
		if f := leb.Fold(c.n); f != c.f {
			t.Errorf("Fold(%d): %d, not %d", c.n, f, c.f)
		}
		if n := leb.Unfold(c.f); n != c.n {
			t.Errorf("Unfold(%d): %d, not %d", c.f, n, c.n)
		}
	}
}

// By numbers that don't wrap round, and back on both sides: so no two are folded to one.
func TestFoldByTheWords(t *testing.T) {
	for _, n := range signed() {
		want := new(big.Int).Mul(big.NewInt(n), big.NewInt(2))
		if n < 0 {
			want.Neg(want).Sub(want, big.NewInt(1))
		}
		f := leb.Fold(n)
		if new(big.Int).SetUint64(f).Cmp(want) != 0 {
			t.Errorf("Fold(%d): %d, not %v", n, f, want)
		}
		if back := leb.Unfold(f); back != n {
			t.Errorf("Unfold(Fold(%d)): %d", n, back)
		}
	}
	for _, n := range numbers() {
		if back := leb.Fold(leb.Unfold(n)); back != n {
			t.Errorf("Fold(Unfold(%d)): %d", n, back)
		}
	}
}

func TestPutIntAndGetInt(t *testing.T) {
	for _, c := range []struct {
		n int64
		s string
	}{
		{0, "\x00"},
		{-1, "\x01"},
		{1, "\x02"},
		{-64, "\x7f"},
		{64, "\x80\x01"},
		{150, "\xac\x02"},
		{math.MaxInt64, "\xfe" + ff(8) + "\x01"},
		{math.MinInt64, ff(9) + "\x01"},
	} {
		if s := putInt(c.n); s != c.s {
			t.Errorf("PutInt of %d: %x, not %x", c.n, s, c.s)
		}
		r := cursor.New(c.s + "\xff")
		if n, e := leb.GetInt(r); n != c.n || e != api.OK || r.At() != len(c.s) {
			t.Errorf("GetInt of %x: %d, %d at %d, not %d", c.s, n, e, r.At(), c.n)
		}
	}
	for _, n := range signed() {
		if s, want := putInt(n), spelling(leb.Fold(n)); s != want {
			t.Errorf("PutInt of %d: %x, not %x", n, s, want)
		}
	}
}

// P2.4

func TestWhatIsPutIsGot(t *testing.T) {
	for _, behind := range []string{"", "\x00", "\x01", "\x80", "\xff\xff", "ab"} {
		for _, n := range numbers() {
			s := put(n)
			r := cursor.New(s + behind)
			if got, e := leb.Get(r); got != n || e != api.OK || r.At() != len(s) {
				t.Errorf("%d ahead of %x: %d, %d at %d", n, behind, got, e, r.At())
			}
		}
		for _, n := range signed() {
			s := putInt(n)
			r := cursor.New(s + behind)
			if got, e := leb.GetInt(r); got != n || e != api.OK || r.At() != len(s) {
				t.Errorf("%d ahead of %x: %d, %d at %d", n, behind, got, e, r.At())
			}
		}
	}
}

func TestOneBehindTheOther(t *testing.T) {
	var w cursor.Writer
	for _, n := range numbers() {
		leb.Put(&w, n)
		leb.PutInt(&w, int64(n))
	}
	r := cursor.New(w.String())
	for _, n := range numbers() {
		if got, e := leb.Get(r); got != n || e != api.OK {
			t.Fatalf("%d: %d, %d", n, got, e)
		}
		if got, e := leb.GetInt(r); got != int64(n) || e != api.OK {
			t.Fatalf("%d: %d, %d", int64(n), got, e)
		}
	}
	if r.Left() != 0 {
		t.Errorf("%d bytes are left", r.Left())
	}
}

// What is got is put again by the same bytes: so no other ones are read as that number.
func TestOneSpelling(t *testing.T) {
	for a := range 256 {
		for b := range 256 {
			for _, c := range []byte{0, 1, 127, 128, 255} {
				s := string([]byte{byte(a), byte(b), c})
				r := cursor.New(s)
				if n, e := leb.Get(r); e == api.OK && put(n) != s[:r.At()] {
					t.Errorf("%x is read as %d, which has %x", s[:r.At()], n, put(n))
				}
			}
		}
	}
	// Noughts on top would spell a number again.
	for _, n := range numbers() {
		s := []byte(put(n))
		for len(s) < 12 {
			s[len(s)-1] |= 128
			s = append(s, 0)
			r := cursor.New(string(s))
			if got, e := leb.Get(r); got != 0 || e != api.ErrForm || r.At() != 0 {
				t.Errorf("%d with noughts on top, %x: %d, %d at %d", n, s, got, e, r.At())
			}
		}
	}
}

func TestNoneBeginsAnother(t *testing.T) {
	var all []string
	for _, n := range numbers() {
		all = append(all, put(n))
	}
	for i, a := range all {
		for j, b := range all {
			if i != j && strings.HasPrefix(b, a) {
				t.Fatalf("%x begins %x", a, b)
			}
		}
	}
	// So none that is cut off is read.
	for _, s := range all {
		for k := range len(s) {
			r := cursor.New(s[:k])
			if n, e := leb.Get(r); n != 0 || e != api.ErrEnd || r.At() != 0 {
				t.Errorf("%x of %x: %d, %d at %d", s[:k], s, n, e, r.At())
			}
		}
	}
}

func TestFourBytes255(t *testing.T) {
	// Only a group of seven bits 1 makes such a byte: so groups at both ends and beside them tell of all.
	groups := []uint64{0, 1, 2, 63, 64, 126, 127}
	all := []uint64{0}
	for k := range 5 {
		var next []uint64
		for _, n := range all {
			for _, g := range append(groups, 14, 15) {
				if n := n | g<<(7*k); n < 1<<32 {
					next = append(next, n)
				}
			}
		}
		all = next
	}
	for _, n := range all {
		if s := put(n); strings.Contains(s, ff(5)) {
			t.Errorf("%d: %x", n, s)
		}
	}
	if s := put(1<<32 - 1); !strings.HasPrefix(s, ff(4)) {
		t.Errorf("the greatest one of 32 bits: %x", s)
	}
}
