package crc_test

import (
	"encoding/binary"
	"hash/crc32"
	"math"
	"strings"
	"testing"

	"taffrail/crc"
)

// steps: what the steps of some bytes make of a sum, by the words of the chapter, bit by bit and without the turnings.
func steps(sum uint32, s string) uint32 {
	for i := range len(s) {
		sum ^= uint32(s[i])
		for range 8 {
			low := sum & 1
			sum >>= 1
			if low == 1 {
				sum ^= 0xedb88320
			}
		}
	}
	return sum
}

// slow: the sum by the words of the chapter.
func slow(s string) uint32 { return ^steps(0xffffffff, s) }

// zeros: so many bytes 0.
func zeros(n int) string { return strings.Repeat("\x00", n) }

// maker: a source of bytes that are the same in each run.
type maker uint32

func (m *maker) next() uint32 {
	*m ^= *m << 13
	*m ^= *m >> 17
	*m ^= *m << 5
	return uint32(*m)
}

func (m *maker) text(n int) string {
	b := make([]byte, n)
	for i := range b {
		b[i] = byte(m.next() >> 9)
	}
	return string(b)
}

// texts: of each length up to 40 some, those all of one byte among them, and longer ones.
func texts() []string {
	m := maker(1)
	l := []string{"123456789", "taffrail", zeros(1000), strings.Repeat("\xff", 1000)}
	for n := range 41 {
		l = append(l, zeros(n), strings.Repeat("\xff", n), strings.Repeat("\x80", n), strings.Repeat("\x01", n), m.text(n), m.text(n))
	}
	for _, n := range []int{120, 175, 179, 255, 256, 257, 4096} {
		l = append(l, m.text(n))
	}
	return l
}

// numbers: sums, those of one bit and those at the ends among them.
func numbers() []uint32 {
	m := maker(2)
	l := []uint32{0, 1, 2, 0xffffffff, 0xfffffffe, 0x7fffffff, 0xedb88320, 0x04030201, 0xcbf43926}
	for k := range 32 {
		l = append(l, 1<<k, ^uint32(1<<k), m.next())
	}
	return l
}

func TestExamplesOfTheChapter(t *testing.T) {
	table := crc.Make()
	if sum := crc.Sum(table, "123456789"); sum != 0xcbf43926 {
		t.Errorf("Sum of 123456789: %x", sum)
	}
	if sum := crc.Sum(table, ""); sum != 0 {
		t.Errorf("Sum of nothing: %x", sum)
	}
	if !crc.Holds(table, zeros(4)) {
		t.Error("four bytes 0 don't hold")
	}
}

// P3.1

func TestSumByTheWords(t *testing.T) {
	table := crc.Make()
	check := func(s string) {
		t.Helper()
		if sum, want := crc.Sum(table, s), slow(s); sum != want || want != crc32.ChecksumIEEE([]byte(s)) {
			t.Errorf("Sum of %x: %x, not %x", s, sum, want)
		}
	}
	for _, s := range texts() {
		check(s)
	}
	for a := range 256 {
		check(string([]byte{byte(a)}))
		check(string([]byte{byte(a), byte(a + 1), byte(7 * a)}))
		for b := range 256 {
			check(string([]byte{byte(a), byte(b)}))
		}
	}
}

func TestSumAtTheEdges(t *testing.T) {
	table := crc.Make()
	for _, c := range []struct {
		s   string
		sum uint32
	}{
		{"", 0},
		{"\x00", 0xd202ef8d},
		{"\xff", 0xff000000},
		{"a", 0xe8b7be43},
		{zeros(4), 0x2144df1c},
		{"\xff\xff\xff\xff", 0xffffffff},
		{"The quick brown fox jumps over the lazy dog", 0x414fa339},
	} {
		if sum := crc.Sum(table, c.s); sum != c.sum {
			t.Errorf("Sum of %x: %x, not %x", c.s, sum, c.sum)
		}
	}
}

func TestSumOfParts(t *testing.T) {
	table := crc.Make()
	for _, parts := range [][]string{nil, {}, {""}, {"", ""}, {"", "", "", ""}} {
		if sum := crc.Sum(table, parts...); sum != 0 {
			t.Errorf("Sum of %q: %x", parts, sum)
		}
	}
	for _, s := range []string{"123456789", zeros(9), "\xff\x00\x80\x01"} {
		want := slow(s)
		for i := range len(s) + 1 {
			for j := i; j <= len(s); j++ {
				for _, parts := range [][]string{{s[:i], s[i:j], s[j:]}, {"", s[:i], "", "", s[i:], ""}} {
					if sum := crc.Sum(table, parts...); sum != want {
						t.Errorf("Sum of %q: %x, not %x", parts, sum, want)
					}
				}
			}
		}
		if sum := crc.Sum(table, strings.Split(s, "")...); sum != want {
			t.Errorf("Sum of %q byte by byte: %x, not %x", s, sum, want)
		}
	}
	if crc.Sum(table, "ab", "c") == crc.Sum(table, "c", "ab") {
		t.Error("the order of parts is lost")
	}
}

// Rule 5: the list of parts stays as it is.
func TestSumLeavesItsParts(t *testing.T) {
	parts := []string{"12", "", "3", "spare"}
	crc.Sum(crc.Make(), parts[:3]...)
	if strings.Join(parts, "|") != "12||3|spare" {
		t.Errorf("%q", parts)
	}
}

func TestAnyTwoTables(t *testing.T) {
	one := crc.Make()
	for _, s := range texts() {
		before := crc.Sum(one, s)
		two := crc.Make()
		if one == nil || two == nil || one == two {
			t.Fatal("Make made no new table")
		}
		if sum := crc.Sum(two, s); sum != before {
			t.Errorf("Sum of %x: %x, by another table %x", s, before, sum)
		}
		for _, table := range []*crc.Table{one, two} {
			if !crc.Holds(table, s+crc.Bytes(before)) {
				t.Errorf("%x doesn't hold by each table", s)
			}
		}
	}
}

func TestBytes(t *testing.T) {
	for _, c := range []struct {
		sum uint32
		s   string
	}{
		{0, zeros(4)},
		{1, "\x01\x00\x00\x00"},
		{0x80000000, "\x00\x00\x00\x80"},
		{0x04030201, "\x01\x02\x03\x04"},
		{0xcbf43926, "\x26\x39\xf4\xcb"},
		{0xffffffff, "\xff\xff\xff\xff"},
	} {
		if s := crc.Bytes(c.sum); s != c.s {
			t.Errorf("Bytes of %x: %x, not %x", c.sum, s, c.s)
		}
	}
	for _, n := range numbers() {
		if s, want := crc.Bytes(n), string(binary.LittleEndian.AppendUint32(nil, n)); s != want {
			t.Errorf("Bytes of %x: %x, not %x", n, s, want)
		}
	}
}

func TestNilTable(t *testing.T) {
	for _, parts := range [][]string{nil, {""}, {"a"}, {"123456789"}, {"1", "2"}} {
		if sum := crc.Sum(nil, parts...); sum != 0 {
			t.Errorf("Sum of %q: %x", parts, sum)
		}
	}
	for _, s := range []string{"", "abc", zeros(4), zeros(8), "123456789\x26\x39\xf4\xcb"} {
		if crc.Holds(nil, s) {
			t.Errorf("%x holds", s)
		}
	}
}

// P3.2

func TestHoldsAtTheEdges(t *testing.T) {
	table := crc.Make()
	for _, c := range []struct {
		s     string
		holds bool
	}{
		{"", false},
		{zeros(1), false},
		{zeros(2), false},
		{zeros(3), false},
		{zeros(4), true},
		{zeros(5), false},
		{zeros(8), false},
		{"\x01\x00\x00\x00", false},
		{"\x00\x00\x00\x01", false},
		{"\xff\xff\xff\xff", false},
		{"\x00\x8d\xef\x02\xd2", true},
		{"\x8d\xef\x02\xd2", false},
		{"\x00\xd2\x02\xef\x8d", false},
		{"\x8d\xef\x02\xd2\x00", false},
		{"\xff\xff\xff\xff\xff\xff\xff\xff", true},
		{"123456789\x26\x39\xf4\xcb", true},
		{"123456789\x26\x39\xf4", false},
		{"123456789\x26\x39\xf4\xcb\x00", false},
		{"23456789\x26\x39\xf4\xcb", false},
		{"123456789\xcb\xf4\x39\x26", false},
		{"\x26\x39\xf4\xcb123456789", false},
	} {
		if holds := crc.Holds(table, c.s); holds != c.holds {
			t.Errorf("Holds of %x: %v", c.s, holds)
		}
	}
}

func TestHoldsByTheWords(t *testing.T) {
	table := crc.Make()
	for _, s := range texts() {
		sum := slow(s)
		for _, n := range append(numbers(), sum, sum+1, ^sum) {
			if holds := crc.Holds(table, s+string(binary.LittleEndian.AppendUint32(nil, n))); holds != (n == sum) {
				t.Errorf("Holds of %x with %x: %v", s, n, holds)
			}
		}
		if len(s) < 4 && crc.Holds(table, s) {
			t.Errorf("%x holds", s)
		}
	}
}

// P3.3

func TestJoinByTheWords(t *testing.T) {
	sums := numbers()
	for i, a := range sums {
		b := sums[len(sums)-1-i]
		at := a
		for n := range 300 {
			if got := crc.Join(a, b, n); got != at^b {
				t.Errorf("Join(%x, %x, %d): %x, not %x", a, b, n, got, at^b)
			}
			at = steps(at, "\x00")
		}
	}
}

func TestJoinAtTheEdges(t *testing.T) {
	for _, a := range numbers() {
		for _, b := range []uint32{0, 1, 0x80000000, 0xcbf43926, 0xffffffff} {
			for _, n := range []int{0, -1, -2, -8, -1 << 31, -1 << 32, math.MinInt + 1, math.MinInt} {
				if got := crc.Join(a, b, n); got != a^b {
					t.Errorf("Join(%x, %x, %d): %x", a, b, n, got)
				}
			}
			if got, want := crc.Join(a, b, 1), steps(a, "\x00")^b; got != want {
				t.Errorf("Join(%x, %x, 1): %x, not %x", a, b, got, want)
			}
		}
	}
	for _, n := range []int{0, 1, 2, 1 << 20, math.MaxInt} {
		if got := crc.Join(0, 0xcbf43926, n); got != 0xcbf43926 {
			t.Errorf("Join(0, cbf43926, %d): %x", n, got)
		}
	}
}

func TestJoinOfManyBytes(t *testing.T) {
	for _, n := range []int{4095, 4096, 65535, 65536, 65537, 1 << 20, 1<<20 + 12345} {
		for _, a := range []uint32{1, 0x80000000, 0xcbf43926, 0xffffffff} {
			if got, want := crc.Join(a, 7, n), steps(a, zeros(n))^7; got != want {
				t.Errorf("Join(%x, 7, %d): %x, not %x", a, n, got, want)
			}
		}
	}
}

// The steps of m bytes behind those of n are those of both; and those of 2^32 - 1 bytes make of each sum
// itself, as one bit's steps go round all sums but 0. So no great n goes astray.
func TestJoinOfGreatNumbers(t *testing.T) {
	const round = 1<<32 - 1
	great := []int{1 << 31, 1<<31 - 1, round - 1, round, round + 1, 1 << 40, 1<<62 - 1, 1 << 62, math.MaxInt - 1, math.MaxInt}
	for _, a := range numbers() {
		for _, n := range great {
			got := crc.Join(a, 0, n)
			if want := crc.Join(a, 0, n%round); got != want {
				t.Errorf("Join(%x, 0, %d): %x, not %x", a, n, got, want)
			}
			for _, m := range []int{1, 2, 255, 1 << 20, n / 3, n / 2, n - 1} {
				if want := crc.Join(crc.Join(a, 0, m), 0, n-m); got != want {
					t.Errorf("Join(%x, 0, %d): %x, by way of %d %x", a, n, got, m, want)
				}
			}
			if got := crc.Join(a, 0xcbf43926, n); got != crc.Join(a, 0, n)^0xcbf43926 {
				t.Errorf("Join(%x, cbf43926, %d): %x", a, n, got)
			}
		}
		if got := crc.Join(a, 0, round); got != a {
			t.Errorf("Join(%x, 0, %d): %x", a, round, got)
		}
		if got, want := crc.Join(a, 0, round+5), steps(a, zeros(5)); got != want {
			t.Errorf("Join(%x, 0, %d): %x, not %x", a, round+5, got, want)
		}
	}
}

func TestJoinOfSums(t *testing.T) {
	table := crc.Make()
	all := texts()
	for _, s := range all {
		for _, u := range all {
			got, want := crc.Join(crc.Sum(table, s), crc.Sum(table, u), len(u)), slow(s+u)
			if got != want {
				t.Errorf("Join of the sums of %x and %x: %x, not %x", s, u, got, want)
			}
		}
	}
	m := maker(3)
	s, u := m.text(100000), m.text(300001)
	if got, want := crc.Join(crc.Sum(table, s), crc.Sum(table, u), len(u)), slow(s+u); got != want {
		t.Errorf("Join of the sums of long texts: %x, not %x", got, want)
	}
}

// P3.4

// turned: s behind a burst: the bits of the pattern, from the lowest one on, are turned from a place on.
func turned(s string, at int, pattern uint32) string {
	b := []byte(s)
	for k := range 32 {
		if pattern>>k&1 == 1 {
			b[(at+k)/8] ^= 1 << ((at + k) % 8)
		}
	}
	return string(b)
}

// patterns: of one length, the first and the last bit turned, those between in many ways.
func patterns(length int) []uint32 {
	if length == 1 {
		return []uint32{1}
	}
	ends := uint32(1) | 1<<(length-1)
	within := ends - 2 // all bits between, as 1<<(length-1) + 1 - 2 has each one below the last
	l := []uint32{ends, ends | within, ends | within&0xaaaaaaaa, ends | within&0x55555555, ends | within&0xedb88320, ends | within&0xdb710641}
	m := maker(length)
	for range 10 {
		l = append(l, ends|within&m.next())
	}
	return l
}

func TestPatterns(t *testing.T) {
	for length := 1; length <= 32; length++ {
		for _, p := range patterns(length) {
			if p%2 != 1 || p>>(length-1) != 1 {
				t.Fatalf("a pattern of %d bits: %b", length, p)
			}
		}
	}
	if s := turned(zeros(6), 7, 0x80000003); s != "\x80\x01\x00\x00\x40\x00" {
		t.Errorf("%x", s)
	}
}

func TestNoneHoldsBehindABurst(t *testing.T) {
	table := crc.Make()
	m := maker(4)
	for _, s := range []string{"", "a", "\xff", "ab", "abc", zeros(4), "123456789", m.text(20), m.text(175)} {
		whole := s + crc.Bytes(crc.Sum(table, s))
		if !crc.Holds(table, whole) {
			t.Fatalf("%x doesn't hold", whole)
		}
		bits := 8 * len(whole)
		for length := 1; length <= 32; length++ {
			for _, p := range patterns(length) {
				for at := 0; at+length <= bits; at++ {
					if spoilt := turned(whole, at, p); crc.Holds(table, spoilt) {
						t.Fatalf("%x holds behind a burst of %b at bit %d", whole, p, at)
					}
				}
			}
		}
	}
}

// All bursts of up to 16 bits in a short text, at all places.
func TestNoneHoldsBehindAnyShortBurst(t *testing.T) {
	table := crc.Make()
	whole := "ab" + crc.Bytes(crc.Sum(table, "ab"))
	for at := range 8 * len(whole) {
		for p := uint32(1); p < 1<<16 && p>>(8*len(whole)-at) == 0; p += 2 {
			if spoilt := turned(whole, at, p); crc.Holds(table, spoilt) {
				t.Fatalf("%x holds behind a burst of %b at bit %d", whole, p, at)
			}
		}
	}
}

// Bits beyond 32 on end are no burst: those of the divisor itself, 33 of them, leave what holds.
func TestWhatIsNoBurst(t *testing.T) {
	table := crc.Make()
	whole := "123456789" + crc.Bytes(crc.Sum(table, "123456789"))
	for at := range 8*len(whole) - 32 {
		spoilt := turned(turned(whole, at, 1), at+1, 0xedb88320)
		if !crc.Holds(table, spoilt) || spoilt == whole {
			t.Errorf("%x doesn't hold", spoilt)
		}
	}
}

func TestThreeTextsXored(t *testing.T) {
	table := crc.Make()
	m := maker(5)
	for n := range 70 {
		for _, c := range [][3]string{
			{m.text(n), m.text(n), m.text(n)},
			{m.text(n), m.text(n), zeros(n)},
			{m.text(n), strings.Repeat("\xff", n), zeros(n)},
			{zeros(n), zeros(n), zeros(n)},
		} {
			b := make([]byte, n)
			for i := range b {
				b[i] = c[0][i] ^ c[1][i] ^ c[2][i]
			}
			want := crc.Sum(table, c[0]) ^ crc.Sum(table, c[1]) ^ crc.Sum(table, c[2])
			if sum := crc.Sum(table, string(b)); sum != want {
				t.Errorf("the sum of %x, xored: %x, not %x", c, sum, want)
			}
		}
	}
}
