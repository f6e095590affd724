package cursor_test

import (
	"math"
	"strings"
	"testing"

	"taffrail/api"
	"taffrail/cursor"
)

// allBytes: each byte once, so that none is special to a reader or a writer.
func allBytes() string {
	b := make([]byte, 256)
	for i := range b {
		b[i] = byte(i)
	}
	return string(b)
}

// words: all texts of two letters with at most so many of them, the empty one too.
func words(most int) []string {
	all := []string{""}
	last := all
	for range most {
		var next []string
		for _, s := range last {
			next = append(next, s+"a", s+"b")
		}
		all = append(all, next...)
		last = next
	}
	return all
}

// stands: it stands at that place, and so many bytes follow.
func stands(t *testing.T, r *cursor.Reader, at, left int) {
	t.Helper()
	if r.At() != at || r.Left() != left {
		t.Errorf("it stands at %d with %d left, not at %d with %d", r.At(), r.Left(), at, left)
	}
}

// seeker: a reader of s that stands at a place.
func seeker(t *testing.T, s string, at int) *cursor.Reader {
	t.Helper()
	r := cursor.New(s)
	if e := r.Seek(at); e != api.OK {
		t.Fatalf("Seek(%d) in %q: %d", at, s, e)
	}
	return r
}

func TestExampleOfTheChapter(t *testing.T) {
	r := cursor.New("abab")
	if b, e := r.Byte(); b != 'a' || e != api.OK {
		t.Errorf("Byte: %d, %d", b, e)
	}
	if at := r.Find("ab"); at != 2 {
		t.Errorf(`Find("ab"): %d`, at)
	}
	if k := r.Agree("bax"); k != 2 {
		t.Errorf(`Agree("bax"): %d`, k)
	}
	if s, e := r.Take(4); s != "" || e != api.ErrEnd {
		t.Errorf("Take(4): %q, %d", s, e)
	}
	stands(t, r, 1, 3)
}

// P1.1

func TestNewStandsAheadOfTheFirst(t *testing.T) {
	for _, s := range []string{"", "a", "abc", allBytes()} {
		stands(t, cursor.New(s), 0, len(s))
	}
}

func TestByteGoesThroughAll(t *testing.T) {
	s := allBytes()
	r := cursor.New(s)
	for i := range len(s) {
		b, e := r.Byte()
		if b != s[i] || e != api.OK {
			t.Fatalf("Byte at %d: %d, %d", i, b, e)
		}
		stands(t, r, i+1, len(s)-i-1)
	}
	for range 2 {
		if b, e := r.Byte(); b != 0 || e != api.ErrEnd {
			t.Errorf("Byte at the end: %d, %d", b, e)
		}
		stands(t, r, len(s), 0)
	}
}

func TestByteOfNone(t *testing.T) {
	r := cursor.New("")
	if b, e := r.Byte(); b != 0 || e != api.ErrEnd {
		t.Errorf("Byte: %d, %d", b, e)
	}
	stands(t, r, 0, 0)
}

func TestTake(t *testing.T) {
	cases := []struct {
		at, n int
		want  string
		err   api.Errno
	}{
		{0, 0, "", api.OK},
		{0, 1, "a", api.OK},
		{0, 4, "abcd", api.OK},
		{0, 5, "", api.ErrEnd},
		{1, 2, "bc", api.OK},
		{1, 3, "bcd", api.OK},
		{1, 4, "", api.ErrEnd},
		{1, math.MaxInt, "", api.ErrEnd},
		{4, 0, "", api.OK},
		{4, 1, "", api.ErrEnd},
		{4, math.MaxInt, "", api.ErrEnd},
		{0, -1, "", api.ErrArg},
		{1, -1, "", api.ErrArg},
		{4, -1, "", api.ErrArg},
		{2, math.MinInt, "", api.ErrArg},
	}
	for _, c := range cases {
		r := seeker(t, "abcd", c.at)
		s, e := r.Take(c.n)
		if s != c.want || e != c.err {
			t.Errorf("Take(%d) at %d: %q, %d, not %q, %d", c.n, c.at, s, e, c.want, c.err)
		}
		at := c.at + len(c.want)
		stands(t, r, at, 4-at)
	}
}

func TestTakeOneBehindTheOther(t *testing.T) {
	s := allBytes()
	r := cursor.New(s)
	var got strings.Builder
	// Bounded, so that it fails and ends even where a reader doesn't move.
	for n := 0; r.Left() > 0 && n <= len(s); n++ {
		part, e := r.Take(min(n, r.Left()))
		if e != api.OK {
			t.Fatalf("Take: %d", e)
		}
		got.WriteString(part)
	}
	if got.String() != s {
		t.Errorf("%q", got.String())
	}
}

func TestSeek(t *testing.T) {
	r := cursor.New("abcd")
	for _, at := range []int{4, 0, 3, 1, 1, 2} {
		if e := r.Seek(at); e != api.OK {
			t.Errorf("Seek(%d): %d", at, e)
		}
		stands(t, r, at, 4-at)
	}
	for _, at := range []int{-1, 5, math.MinInt, math.MaxInt} {
		if e := r.Seek(at); e != api.ErrArg {
			t.Errorf("Seek(%d): %d", at, e)
		}
		stands(t, r, 2, 2)
	}
	if b, e := r.Byte(); b != 'c' || e != api.OK {
		t.Errorf("Byte: %d, %d", b, e)
	}
}

func TestSeekInNone(t *testing.T) {
	r := cursor.New("")
	if e := r.Seek(0); e != api.OK {
		t.Errorf("Seek(0): %d", e)
	}
	if e := r.Seek(1); e != api.ErrArg {
		t.Errorf("Seek(1): %d", e)
	}
	stands(t, r, 0, 0)
}

func TestReadersStandApart(t *testing.T) {
	s := "ab"
	one, other := cursor.New(s), cursor.New(s)
	one.Byte()
	stands(t, one, 1, 1)
	stands(t, other, 0, 2)
}

// P1.2

func TestAgree(t *testing.T) {
	cases := []struct {
		at   int
		t    string
		want int
	}{
		{0, "", 0},
		{0, "abcd", 4},
		{0, "abcdef", 4},
		{0, "abXd", 2},
		{0, "b", 0},
		{2, "cd", 2},
		{2, "ab", 0},
		{4, "a", 0},
		{4, "", 0},
	}
	for _, c := range cases {
		r := seeker(t, "abcd", c.at)
		if k := r.Agree(c.t); k != c.want {
			t.Errorf("Agree(%q) at %d: %d, not %d", c.t, c.at, k, c.want)
		}
		stands(t, r, c.at, 4-c.at)
	}
}

func TestFind(t *testing.T) {
	cases := []struct {
		at   int
		t    string
		want int
	}{
		{0, "", 0},
		{3, "", 3},
		{4, "", 4},
		{0, "ab", 0},
		{1, "ab", 2},
		{2, "ab", 2},
		{3, "ab", -1},
		{3, "b", 3},
		{4, "b", -1},
		{0, "abab", 0},
		{0, "ababa", -1},
		{0, "c", -1},
	}
	for _, c := range cases {
		r := seeker(t, "abab", c.at)
		if at := r.Find(c.t); at != c.want {
			t.Errorf("Find(%q) at %d: %d, not %d", c.t, c.at, at, c.want)
		}
		stands(t, r, c.at, 4-c.at)
	}
}

func TestFindAndAgreeInNone(t *testing.T) {
	r := cursor.New("")
	if r.Find("") != 0 || r.Find("a") != -1 || r.Agree("") != 0 || r.Agree("a") != 0 {
		t.Error(r.Find(""), r.Find("a"), r.Agree(""), r.Agree("a"))
	}
}

// Texts are bytes: neither a byte that is no rune's, nor a part of a rune's bytes, is skipped.
func TestFindAndAgreeByBytes(t *testing.T) {
	r := cursor.New("\xff\xc3\xa4\x00\xff")
	if at := r.Find("\xa4"); at != 2 {
		t.Errorf("Find of a rune's second byte: %d", at)
	}
	if at := r.Find("\x00\xff"); at != 3 {
		t.Errorf("Find behind a nought: %d", at)
	}
	if k := r.Agree("\xff\xc3\xa5"); k != 2 {
		t.Errorf("Agree up to a rune's second byte: %d", k)
	}
}

// agreeing and finding say P1.2's words by trying each length and each place.

func agreeing(s string, at int, t string) int {
	most := 0
	for k := range len(t) + 1 {
		if strings.HasPrefix(s[at:], t[:k]) {
			most = k
		}
	}
	return most
}

func finding(s string, at int, t string) int {
	for i := at; i <= len(s); i++ {
		if strings.HasPrefix(s[i:], t) {
			return i
		}
	}
	return -1
}

func TestFindAndAgreeOfAllSmallTexts(t *testing.T) {
	parts := words(4)
	for _, s := range words(6) {
		for at := range len(s) + 1 {
			r := seeker(t, s, at)
			for _, p := range parts {
				if got, want := r.Agree(p), agreeing(s, at, p); got != want {
					t.Errorf("%q at %d: Agree(%q): %d, not %d", s, at, p, got, want)
				}
				if got, want := r.Find(p), finding(s, at, p); got != want {
					t.Errorf("%q at %d: Find(%q): %d, not %d", s, at, p, got, want)
				}
				stands(t, r, at, len(s)-at)
			}
		}
	}
}

func TestFindOfLongTexts(t *testing.T) {
	same := strings.Repeat("a", 1<<16)
	r := cursor.New(same + "b")
	r.Byte()
	if at := r.Find(same[1:] + "b"); at != 1 {
		t.Errorf("Find: %d", at)
	}
	if at := r.Find(same[:1<<15] + "b"); at != 1<<15 {
		t.Errorf("Find of the half: %d", at)
	}
	if at := r.Find(same + "b"); at != -1 {
		t.Errorf("Find of what begins ahead of its place: %d", at)
	}
	if k := r.Agree(same); k != 1<<16-1 {
		t.Errorf("Agree: %d", k)
	}
}

// P1.3

// holds: the writer has just these bytes.
func holds(t *testing.T, w *cursor.Writer, want string) {
	t.Helper()
	if w.String() != want || w.Len() != len(want) {
		t.Errorf("it has %d bytes %q, not %q", w.Len(), w.String(), want)
	}
}

func TestWriterAtFirst(t *testing.T) {
	var w cursor.Writer
	holds(t, &w, "")
	w.Put()
	w.Text("")
	holds(t, &w, "")
}

func TestWriterPutsBehind(t *testing.T) {
	var w cursor.Writer
	w.Put('a')
	holds(t, &w, "a")
	w.Text("bc")
	holds(t, &w, "abc")
	w.Put('d', 0, 255)
	holds(t, &w, "abcd\x00\xff")
	w.Put()
	w.Text("")
	holds(t, &w, "abcd\x00\xff")
	w.Text("\xff\n\x00")
	holds(t, &w, "abcd\x00\xff\xff\n\x00")
}

func TestWriterTakesAllBytes(t *testing.T) {
	s := allBytes()
	var w cursor.Writer
	for i := range len(s) {
		w.Put(s[i])
	}
	holds(t, &w, s)
	w.Put([]byte(s)...)
	w.Text(s)
	holds(t, &w, s+s+s)
}

func TestWriterKeepsNothingOfOthers(t *testing.T) {
	room := []byte("abcd")
	var w cursor.Writer
	w.Put(room[:2]...)
	w.Put('x')
	if string(room) != "abcd" {
		t.Errorf("what was handed in is now %q", room)
	}
	room[0] = 'y'
	holds(t, &w, "abx")
}

func TestWriterToldStaysAsItWas(t *testing.T) {
	var w, other cursor.Writer
	w.Text("ab")
	told := w.String()
	w.Text("cd")
	if told != "ab" {
		t.Errorf("what was told is now %q", told)
	}
	holds(t, &other, "")
}

func TestWrittenIsRead(t *testing.T) {
	var w cursor.Writer
	w.Put(1, 2)
	w.Text(allBytes())
	r := cursor.New(w.String())
	if s, e := r.Take(w.Len()); s != "\x01\x02"+allBytes() || e != api.OK {
		t.Errorf("Take: %q, %d", s, e)
	}
}

// P1.4

func TestNilReader(t *testing.T) {
	var r *cursor.Reader
	stands(t, r, 0, 0)
	if b, e := r.Byte(); b != 0 || e != api.ErrNil {
		t.Errorf("Byte: %d, %d", b, e)
	}
	for _, n := range []int{0, 1, -1, math.MaxInt, math.MinInt} {
		if s, e := r.Take(n); s != "" || e != api.ErrNil {
			t.Errorf("Take(%d): %q, %d", n, s, e)
		}
		if e := r.Seek(n); e != api.ErrNil {
			t.Errorf("Seek(%d): %d", n, e)
		}
	}
	for _, s := range []string{"", "a"} {
		if k := r.Agree(s); k != 0 {
			t.Errorf("Agree(%q): %d", s, k)
		}
		if at := r.Find(s); at != -1 {
			t.Errorf("Find(%q): %d", s, at)
		}
	}
}

func TestNilWriter(t *testing.T) {
	var w *cursor.Writer
	holds(t, w, "")
	w.Put()
	w.Put('a', 'b')
	w.Text("")
	w.Text("ab")
	holds(t, w, "")
}
