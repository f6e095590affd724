package ring_test

import (
	"math"
	"slices"
	"strings"
	"testing"
	"unsafe"

	"taffrail/api"
	"taffrail/ring"
)

const (
	newest = api.PNewest
	oldest = api.POldest
)

var policies = []int{newest, oldest}

// maker: a source of words that are the same in each run.
type maker uint32

func (m *maker) next() uint32 {
	*m ^= *m << 13
	*m ^= *m >> 17
	*m ^= *m << 5
	return uint32(*m)
}

// below: a number from 0 on, below n.
func (m *maker) below(n int) int { return int(m.next()>>3) % n }

// filled: n bytes, each of which hangs on the number and on its place, so that none is taken for another.
func filled(number, n int) string {
	b := make([]byte, n)
	m := maker(number + 1)
	for k := range b {
		b[k] = byte(m.next() >> 7)
	}
	return string(b)
}

// made: a ring, where New must answer one.
func made(t *testing.T, room, policy int) *ring.Ring {
	t.Helper()
	r, err := ring.New(room, policy)
	if r == nil || err != api.OK {
		t.Fatalf("New(%d, %d): %v, error %d", room, policy, r, err)
	}
	return r
}

// stand is what the four calls that change nothing answer.
type stand struct {
	used, held int
	begun      bool
	lost       uint64
}

func standOf(r *ring.Ring) stand { return stand{r.Used(), r.Held(), r.Begun(), r.Lost()} }

// stands: fails, unless the ring stands so.
func stands(t *testing.T, r *ring.Ring, used, held int, begun bool, lost uint64) {
	t.Helper()
	if got, want := standOf(r), (stand{used, held, begun, lost}); got != want {
		t.Errorf("the ring stands %v, not %v", got, want)
	}
}

// puts: fails, unless Put answers so.
func puts(t *testing.T, r *ring.Ring, s string, want api.Errno) {
	t.Helper()
	if err := r.Put(s); err != want {
		t.Errorf("Put of %d bytes: error %d, not %d", len(s), err, want)
	}
}

// drains: fails, unless Drain answers these bytes.
func drains(t *testing.T, r *ring.Ring, most int, want string) {
	t.Helper()
	if s := r.Drain(most); s != want {
		t.Errorf("Drain(%d): %x, not %x", most, s, want)
	}
}

// model is a ring by the chapter's words: of each frame all its bytes, and of the first one how many were drained.
type model struct {
	room, policy int
	frames       []string
	drained      int
	lost         uint64
}

func (m *model) used() int { return len(strings.Join(m.frames, "")) - m.drained }

func (m *model) stand() stand { return stand{m.used(), len(m.frames), m.drained > 0, m.lost} }

func (m *model) put(s string) api.Errno {
	if len(s) == 0 || len(s) > 179 {
		return api.ErrArg
	}
	left, first := 0, 0
	if m.drained > 0 {
		left, first = len(m.frames[0])-m.drained, 1
	}
	if m.used()+len(s) > m.room && (m.policy == newest || left+len(s) > m.room) {
		m.lost++
		return api.ErrFull
	}
	for m.used()+len(s) > m.room {
		m.frames = slices.Delete(m.frames, first, first+1)
		m.lost++
	}
	m.frames = append(m.frames, s)
	return api.OK
}

func (m *model) drain(most int) string {
	var b []byte
	for len(b) < most && len(m.frames) > 0 {
		b = append(b, m.frames[0][m.drained])
		m.drained++
		if m.drained == len(m.frames[0]) {
			m.frames, m.drained = m.frames[1:], 0
		}
	}
	return string(b)
}

// both are a ring and its model, which are told the same; a number tells their frames apart.
type both struct {
	r      *ring.Ring
	m      *model
	number int
	told   []int
}

func pair(t *testing.T, room, policy int) *both {
	t.Helper()
	return &both{r: made(t, room, policy), m: &model{room: room, policy: policy}}
}

// do: a frame of n bytes is put, or, if n is below 0, so many are drained; fails, unless both answer the same, and stand so.
func (b *both) do(t *testing.T, n int) {
	t.Helper()
	b.told = append(b.told, n)
	if n >= 0 {
		s := filled(b.number, n)
		b.number++
		if got, want := b.r.Put(s), b.m.put(s); got != want {
			t.Fatalf("room %d, policy %d, behind %v: Put answers %d, not %d", b.m.room, b.m.policy, b.told, got, want)
		}
	} else if got, want := b.r.Drain(-n), b.m.drain(-n); got != want {
		t.Fatalf("room %d, policy %d, behind %v: Drain answers %x, not %x", b.m.room, b.m.policy, b.told, got, want)
	}
	if got, want := standOf(b.r), b.m.stand(); got != want {
		t.Fatalf("room %d, policy %d, behind %v: it stands %v, not %v", b.m.room, b.m.policy, b.told, got, want)
	}
}

func TestExampleOfTheChapter(t *testing.T) {
	r := made(t, 179, oldest)
	a, b, c, d := filled(1, 100), filled(2, 60), filled(3, 50), filled(4, 130)
	puts(t, r, a, api.OK)
	puts(t, r, b, api.OK)
	puts(t, r, c, api.OK)
	stands(t, r, 110, 2, false, 1)
	drains(t, r, 10, b[:10])
	stands(t, r, 100, 2, true, 1)
	puts(t, r, d, api.ErrFull)
	stands(t, r, 100, 2, true, 2)
	drains(t, r, math.MaxInt, b[10:]+c)
	stands(t, r, 0, 0, false, 2)
}

// P8.1

var (
	rooms  = []int{math.MinInt, -1 << 32, -179, -1, 0, 1, 60, 177, 178, 179, 180, 181, 1000, 1<<20 - 1, 1 << 20, 1<<20 + 1, 1 << 21, 1 << 31, 1<<32 + 179, math.MaxInt}
	others = []int{math.MinInt, -1 << 32, -2, -1, 0, 1, 2, 3, 255, 256, 1 << 32, 1<<32 + 1, math.MaxInt}
)

func TestNew(t *testing.T) {
	if api.MaxFrame != 179 || api.MaxRing != 1<<20 || newest != 0 || oldest != 1 {
		t.Fatal("the limits aren't those of the document")
	}
	for _, room := range rooms {
		for _, policy := range others {
			r, err := ring.New(room, policy)
			if room < 179 || room > 1<<20 || policy != 0 && policy != 1 {
				if r != nil || err != api.ErrArg {
					t.Errorf("New(%d, %d): %v, error %d", room, policy, r, err)
				}
				continue
			}
			if r == nil || err != api.OK {
				t.Errorf("New(%d, %d): %v, error %d", room, policy, r, err)
				continue
			}
			stands(t, r, 0, 0, false, 0)
			drains(t, r, math.MaxInt, "")
			stands(t, r, 0, 0, false, 0)
		}
	}
}

// full: a ring of this room in which each byte is used, and the frames that it holds: those of 179 bytes, and what is left.
func full(t *testing.T, room, policy int) (*ring.Ring, []string) {
	t.Helper()
	r := made(t, room, policy)
	var l []string
	for left := room; left > 0; left -= min(left, 179) {
		s := filled(len(l), min(left, 179))
		l = append(l, s)
		puts(t, r, s, api.OK)
	}
	stands(t, r, room, len(l), false, 0)
	return r, l
}

// TestRoomAndPolicy: the room is just that which New was told, and the policy too.
func TestRoomAndPolicy(t *testing.T) {
	for _, room := range []int{179, 180, 181, 357, 358, 359, 1000, 65535, 65536, 65537, 1<<20 - 1, 1 << 20} {
		r, l := full(t, room, newest)
		puts(t, r, "x", api.ErrFull)
		stands(t, r, room, len(l), false, 1)
		drains(t, r, room, strings.Join(l, ""))

		r, l = full(t, room, oldest)
		puts(t, r, "x", api.OK)
		stands(t, r, room-len(l[0])+1, len(l), false, 1)
		drains(t, r, room, strings.Join(l[1:], "")+"x")
	}
}

func TestTwoRings(t *testing.T) {
	r, q := made(t, 179, newest), made(t, 179, newest)
	a, b := filled(1, 100), filled(2, 150)
	puts(t, r, a, api.OK)
	stands(t, q, 0, 0, false, 0)
	puts(t, q, b, api.OK)
	puts(t, q, a, api.ErrFull)
	drains(t, q, 1, b[:1])
	stands(t, r, 100, 1, false, 0)
	drains(t, r, 200, a)
	stands(t, q, 149, 1, true, 1)
	drains(t, q, 200, b[1:])
}

// P8.2

func TestWrongFrames(t *testing.T) {
	wrong := []string{"", filled(1, 180), filled(2, 181), filled(3, 358), filled(4, 1<<16), filled(5, 1<<16+1), filled(6, 1<<20), filled(7, 1<<20+1)}
	for _, policy := range policies {
		r := made(t, 1<<20, policy)
		for _, s := range wrong {
			puts(t, r, s, api.ErrArg)
			stands(t, r, 0, 0, false, 0)
		}
		drains(t, r, math.MaxInt, "")

		// Where there is no room, too, what is no frame is refused and not lost.
		r, l := full(t, 400, policy)
		drains(t, r, 1, l[0][:1])
		puts(t, r, "x", api.OK)
		for _, s := range wrong {
			puts(t, r, s, api.ErrArg)
			stands(t, r, 400, len(l)+1, true, 0)
		}
		drains(t, r, math.MaxInt, strings.Join(l, "")[1:]+"x")
	}
}

func TestEachSizeOfAFrame(t *testing.T) {
	for _, policy := range policies {
		for n := 1; n <= 179; n++ {
			r := made(t, 179, policy)
			s := filled(n, n)
			puts(t, r, s, api.OK)
			stands(t, r, n, 1, false, 0)
			drains(t, r, n, s)
			stands(t, r, 0, 0, false, 0)
		}
	}
}

// TestAnyBytes: a frame's bytes may be any ones: ends of lines, zeros, and what is no rune's.
func TestAnyBytes(t *testing.T) {
	var all []byte
	for k := range 256 {
		all = append(all, byte(k))
	}
	r := made(t, 300, newest)
	s, u := string(all[:128]), string(all[128:])
	puts(t, r, s, api.OK)
	puts(t, r, u, api.OK)
	drains(t, r, 256, s+u)
}

// TestJustFits: each two frames, the second just as long as there is room, and one byte more.
func TestJustFits(t *testing.T) {
	for _, room := range []int{179, 200, 300} {
		for n := room - 178; n <= 179; n++ {
			a := filled(1, n)
			fits := filled(2, room-n)
			for _, policy := range policies {
				r := made(t, room, policy)
				puts(t, r, a, api.OK)
				if n < room {
					puts(t, r, fits, api.OK)
					stands(t, r, room, 2, false, 0)
				}
				drains(t, r, 1000, a+fits)
			}
			if room-n+1 > 179 {
				continue
			}
			more := filled(3, room-n+1)
			r := made(t, room, newest)
			puts(t, r, a, api.OK)
			puts(t, r, more, api.ErrFull)
			stands(t, r, n, 1, false, 1)
			drains(t, r, 1000, a)
			r = made(t, room, oldest)
			puts(t, r, a, api.OK)
			puts(t, r, more, api.OK)
			stands(t, r, len(more), 1, false, 1)
			drains(t, r, 1000, more)
		}
	}
}

// TestNewestIsLost: what is held stays, whatever is lost; a shorter frame may still have room.
func TestNewestIsLost(t *testing.T) {
	r := made(t, 179, newest)
	a, b, c := filled(1, 100), filled(2, 60), filled(3, 19)
	puts(t, r, a, api.OK)
	puts(t, r, b, api.OK)
	for k := range 5 {
		puts(t, r, filled(4, 20+k), api.ErrFull)
		stands(t, r, 160, 2, false, uint64(k+1))
	}
	puts(t, r, c, api.OK)
	puts(t, r, "x", api.ErrFull)
	stands(t, r, 179, 3, false, 6)
	drains(t, r, 1, a[:1])
	puts(t, r, "xy", api.ErrFull)
	stands(t, r, 178, 3, true, 7)
	puts(t, r, "z", api.OK)
	drains(t, r, 1000, a[1:]+b+c+"z")
	stands(t, r, 0, 0, false, 7)
}

// TestOldestAreLost: as many as must be, and none more: one, several, or all.
func TestOldestAreLost(t *testing.T) {
	l := []string{filled(1, 30), filled(2, 1), filled(3, 70), filled(4, 40), filled(5, 38)}
	for _, c := range []struct{ n, lost int }{{1, 1}, {30, 1}, {31, 2}, {32, 3}, {101, 3}, {102, 4}, {141, 4}, {142, 5}, {178, 5}, {179, 5}} {
		r := made(t, 179, oldest)
		for _, s := range l {
			puts(t, r, s, api.OK)
		}
		stands(t, r, 179, 5, false, 0)
		s := filled(6, c.n)
		puts(t, r, s, api.OK)
		want := strings.Join(l[c.lost:], "") + s
		stands(t, r, len(want), 6-c.lost, false, uint64(c.lost))
		drains(t, r, 1000, want)
	}
}

// TestOldestAreLostBehindABegunOne: the begun one stays the first, and only those behind it are lost.
func TestOldestAreLostBehindABegunOne(t *testing.T) {
	l := []string{filled(1, 30), filled(2, 1), filled(3, 70), filled(4, 40), filled(5, 38)}
	for _, c := range []struct{ n, lost int }{{10, 0}, {11, 1}, {12, 2}, {81, 2}, {82, 3}, {121, 3}, {122, 4}, {158, 4}, {159, 4}} {
		r := made(t, 179, oldest)
		for _, s := range l {
			puts(t, r, s, api.OK)
		}
		drains(t, r, 10, l[0][:10])
		stands(t, r, 169, 5, true, 0)
		s := filled(6, c.n)
		puts(t, r, s, api.OK)
		want := l[0][10:] + strings.Join(l[1+c.lost:], "") + s
		stands(t, r, len(want), 6-c.lost, true, uint64(c.lost))
		drains(t, r, 20, l[0][10:])
		stands(t, r, len(want)-20, 5-c.lost, false, uint64(c.lost))
		drains(t, r, 1000, want[20:])
	}
}

// TestBegunOneLeavesTooLittle: the new frame is lost, and nothing else, though all others would be given up.
func TestBegunOneLeavesTooLittle(t *testing.T) {
	for drained := 1; drained < 100; drained++ {
		a, b, c := filled(1, 100), filled(2, 50), filled(3, 29)
		for n := drained + 1; n <= 179; n++ {
			r := made(t, 179, oldest)
			puts(t, r, a, api.OK)
			puts(t, r, b, api.OK)
			puts(t, r, c, api.OK)
			drains(t, r, drained, a[:drained])
			s := filled(4, n)
			if n > 79+drained {
				puts(t, r, s, api.ErrFull)
				stands(t, r, 179-drained, 3, true, 1)
				drains(t, r, 1000, a[drained:]+b+c)
				continue
			}
			puts(t, r, s, api.OK)
			if n <= 50+drained {
				stands(t, r, 129-drained+n, 3, true, 1)
				drains(t, r, 1000, a[drained:]+c+s)
			} else {
				stands(t, r, 100-drained+n, 2, true, 2)
				drains(t, r, 1000, a[drained:]+s)
			}
		}
	}
}

// TestBegunOneAlone: with what is left of it each frame that has room is held, and none that hasn't, by either policy.
func TestBegunOneAlone(t *testing.T) {
	a := filled(1, 179)
	for _, policy := range policies {
		for drained := 1; drained < 179; drained++ {
			for _, n := range []int{1, drained - 1, drained, drained + 1, 178, 179} {
				if n < 1 {
					continue
				}
				r := made(t, 179, policy)
				puts(t, r, a, api.OK)
				drains(t, r, drained, a[:drained])
				s := filled(2, n)
				if n > drained {
					puts(t, r, s, api.ErrFull)
					stands(t, r, 179-drained, 1, true, 1)
					drains(t, r, 1000, a[drained:])
					continue
				}
				puts(t, r, s, api.OK)
				stands(t, r, 179-drained+n, 2, true, 0)
				drains(t, r, 1000, a[drained:]+s)
			}
		}
	}
}

// TestBegunOneAgain: behind its last byte the frame that follows isn't begun, and can be lost.
func TestBegunOneAgain(t *testing.T) {
	r := made(t, 179, oldest)
	a, b, c := filled(1, 100), filled(2, 79), filled(3, 179)
	puts(t, r, a, api.OK)
	puts(t, r, b, api.OK)
	drains(t, r, 99, a[:99])
	puts(t, r, c, api.ErrFull)
	stands(t, r, 80, 2, true, 1)
	drains(t, r, 1, a[99:])
	stands(t, r, 79, 1, false, 1)
	puts(t, r, c, api.OK)
	stands(t, r, 179, 1, false, 2)
	drains(t, r, 1000, c)
}

// TestGreatRoom: the greatest room, full of the shortest frames: each new one costs as many as it has bytes.
func TestGreatRoom(t *testing.T) {
	const room = 1 << 20
	for _, policy := range policies {
		r := made(t, room, policy)
		all := make([]byte, 0, 2*room+400)
		for k := range room {
			b := byte(k) + byte(k>>8)*3
			if r.Put(string([]byte{b})) != api.OK {
				t.Fatalf("Put of byte %d is refused", k)
			}
			all = append(all, b)
		}
		stands(t, r, room, room, false, 0)
		if policy == newest {
			for k := range room {
				if r.Put("x") != api.ErrFull || r.Lost() != uint64(k+1) {
					t.Fatalf("Put beyond the room, %d: lost are %d", k, r.Lost())
				}
			}
			stands(t, r, room, room, false, room)
			drains(t, r, room, string(all))
			continue
		}
		for k := range room {
			b := byte(k) ^ 99
			if r.Put(string([]byte{b})) != api.OK || r.Lost() != uint64(k+1) || r.Used() != room {
				t.Fatalf("Put beyond the room, %d: lost are %d", k, r.Lost())
			}
			all = append(all, b)
		}
		s := filled(1, 179)
		puts(t, r, s, api.OK)
		all = append(all, s...)
		stands(t, r, room, room-178, false, room+179)
		drains(t, r, room, string(all[len(all)-room:]))
	}
}

// TestFrameIsNotKept: what is handed in may be altered then, where its bytes are another's; what is held stays.
func TestFrameIsNotKept(t *testing.T) {
	r := made(t, 200, oldest)
	b := []byte(filled(1, 150))
	puts(t, r, unsafe.String(&b[0], 100), api.OK)
	clear(b)
	drains(t, r, 50, filled(1, 100)[:50])
	drains(t, r, 50, filled(1, 100)[50:])
}

// P8.3

// TestDrain: of three frames, each number of bytes, then each other number of them.
func TestDrain(t *testing.T) {
	l := []string{filled(1, 5), filled(2, 1), filled(3, 7)}
	all := strings.Join(l, "")
	held := func(at int) (int, bool) {
		for k, end := range []int{5, 6, 13} {
			if at < end {
				return 3 - k, at != 0 && at != 5 && at != 6
			}
		}
		return 0, false
	}
	for _, policy := range policies {
		for first := -2; first <= 15; first++ {
			for then := -2; then <= 15; then++ {
				r := made(t, 179, policy)
				for _, s := range l {
					puts(t, r, s, api.OK)
				}
				at := min(max(first, 0), 13)
				drains(t, r, first, all[:at])
				n, begun := held(at)
				stands(t, r, 13-at, n, begun, 0)
				end := min(at+max(then, 0), 13)
				drains(t, r, then, all[at:end])
				n, begun = held(end)
				stands(t, r, 13-end, n, begun, 0)
			}
		}
	}
}

// TestDrainFarOff: none, or all, whatever the number is.
func TestDrainFarOff(t *testing.T) {
	a, b := filled(1, 100), filled(2, 70)
	for _, policy := range policies {
		for _, most := range []int{170, 171, 179, 180, 1 << 20, 1<<31 - 1, 1 << 31, 1 << 32, math.MaxInt - 1, math.MaxInt} {
			r := made(t, 179, policy)
			puts(t, r, a, api.OK)
			puts(t, r, b, api.OK)
			for _, none := range []int{0, -1, -170, -1 << 31, -1 << 32, math.MinInt, math.MinInt + 1} {
				drains(t, r, none, "")
				stands(t, r, 170, 2, false, 0)
			}
			drains(t, r, 3, a[:3])
			drains(t, r, math.MinInt, "")
			stands(t, r, 167, 2, true, 0)
			drains(t, r, most, a[3:]+b)
			stands(t, r, 0, 0, false, 0)
			drains(t, r, most, "")
			stands(t, r, 0, 0, false, 0)
		}
	}
}

// TestByteByByte: a frame is held till its last byte is drained, and begun behind its first one, but for a frame of one byte.
func TestByteByByte(t *testing.T) {
	for _, policy := range policies {
		r := made(t, 500, policy)
		l := []string{filled(1, 179), filled(2, 1), filled(3, 2), filled(4, 1), filled(5, 1), filled(6, 179), filled(7, 3)}
		for _, s := range l {
			puts(t, r, s, api.OK)
		}
		used := r.Used()
		for k, s := range l {
			for i := range len(s) {
				stands(t, r, used, len(l)-k, i > 0, 0)
				drains(t, r, 1, s[i:i+1])
				used--
			}
		}
		stands(t, r, 0, 0, false, 0)
		drains(t, r, 1, "")
	}
}

// TestLookingChangesNothing: Used, Held, Begun and Lost, however often.
func TestLookingChangesNothing(t *testing.T) {
	r := made(t, 179, oldest)
	a, b := filled(1, 100), filled(2, 90)
	puts(t, r, a, api.OK)
	puts(t, r, b, api.OK)
	drains(t, r, 4, b[:4])
	for range 10 {
		stands(t, r, 86, 1, true, 1)
	}
	drains(t, r, 179, b[4:])
}

// TestLostGoesOn: it is never less than it was, whatever is drained, and by either policy counts each frame.
func TestLostGoesOn(t *testing.T) {
	const many = 1<<17 + 3
	s := filled(1, 100)
	for _, policy := range policies {
		r := made(t, 179, policy)
		puts(t, r, s, api.OK)
		for k := range many {
			err := r.Put(s)
			if policy == newest && err != api.ErrFull || policy == oldest && err != api.OK {
				t.Fatalf("policy %d: Put answers %d", policy, err)
			}
			if r.Lost() != uint64(k+1) || r.Held() != 1 || r.Used() != 100 {
				t.Fatalf("policy %d, behind %d losses: it stands %v", policy, k+1, standOf(r))
			}
		}
		drains(t, r, 1000, s)
		stands(t, r, 0, 0, false, many)
		puts(t, r, s, api.OK)
		drains(t, r, 1, s[:1])
		puts(t, r, s, api.ErrFull)
		stands(t, r, 99, 1, true, many+1)
	}
}

// P8.4

func TestNil(t *testing.T) {
	var r *ring.Ring
	for _, s := range []string{"", "x", filled(1, 179), filled(2, 180)} {
		if err := r.Put(s); err != api.ErrNil {
			t.Errorf("Put of %d bytes into nil: error %d", len(s), err)
		}
	}
	for _, most := range []int{math.MinInt, -1, 0, 1, 179, math.MaxInt} {
		if s := r.Drain(most); s != "" {
			t.Errorf("Drain(%d) of nil: %x", most, s)
		}
	}
	stands(t, r, 0, 0, false, 0)
}

// P8.2 and P8.3, against the chapter's words

// TestEachRun: all runs of some puts and drains, in a room of one frame and in one of two.
func TestEachRun(t *testing.T) {
	for _, c := range []struct {
		room  int
		steps []int
	}{
		{179, []int{1, 60, 89, 179, -1, -59, -89}},
		{181, []int{1, 2, 90, 178, 179, -1, -178}},
		{358, []int{3, 119, 179, 120, -1, -118, -240}},
	} {
		for _, policy := range policies {
			each(len(c.steps), 5, func(run []int) {
				b := pair(t, c.room, policy)
				for _, k := range run {
					b.do(t, c.steps[k])
				}
				b.do(t, -1000)
			})
		}
	}
}

// each: all lists of so many numbers below n.
func each(n, length int, tell func([]int)) {
	l := make([]int, length)
	for {
		tell(l)
		k := 0
		for ; k < length && l[k] == n-1; k++ {
			l[k] = 0
		}
		if k == length {
			return
		}
		l[k]++
	}
}

// TestMadeRuns: long runs, in rooms that hold few frames and many; wrong frames among them.
func TestMadeRuns(t *testing.T) {
	m := maker(7)
	sizes := []func() int{
		func() int { return 1 + m.below(179) },
		func() int { return 1 + m.below(9) },
		func() int { return 170 + m.below(10) },
		func() int { return []int{0, 1, 2, 178, 179, 180}[m.below(6)] },
	}
	mosts := []func() int{
		func() int { return 1 + m.below(3) },
		func() int { return 1 + m.below(179) },
		func() int { return 1 + m.below(600) },
	}
	for _, room := range []int{179, 180, 200, 300, 537, 1000, 4096} {
		for _, policy := range policies {
			// How many puts come to a drain: so a ring is now near empty, now near full.
			for turns := range 6 {
				b := pair(t, room, policy)
				for range 500 {
					if m.below(turns+2) > 0 {
						b.do(t, sizes[m.below(len(sizes))]())
					} else {
						b.do(t, -mosts[m.below(len(mosts))]())
					}
				}
				b.do(t, -room)
			}
		}
	}
}

// P8.5

// numbered: a frame of n bytes, at least 4, that tells its number and its length.
func numbered(number, n int) string {
	return string([]byte{byte(number >> 16), byte(number >> 8), byte(number), byte(n)}) + filled(number, n-4)
}

// parted: the numbers of the whole frames that these bytes are, and what is left behind them.
func parted(t *testing.T, s string) (l []int, rest string) {
	t.Helper()
	for len(s) >= 4 && len(s) >= int(s[3]) {
		number, n := int(s[0])<<16|int(s[1])<<8|int(s[2]), int(s[3])
		if n < 4 || s[:n] != numbered(number, n) {
			t.Fatalf("no frame that was put: %x", s[:n])
		}
		l = append(l, number)
		s = s[n:]
	}
	return l, s
}

// TestEachFrameOnce: what is drained together is whole frames in their order, the last one begun or not, and each is drained, held or lost, once.
func TestEachFrameOnce(t *testing.T) {
	const many = 1500
	m := maker(11)
	for _, most := range []int{1, 5, 100, 179, 400, 2000} {
		for _, room := range []int{179, 300, 1000, 5000} {
			for _, policy := range policies {
				r := made(t, room, policy)
				var out strings.Builder
				refused := map[int]bool{}
				for number := range many {
					if err := r.Put(numbered(number, 4+m.below(176))); err == api.ErrFull {
						refused[number] = true
					} else if err != api.OK {
						t.Fatalf("Put: error %d", err)
					}
					for range m.below(4) {
						out.WriteString(r.Drain(m.below(most + 1)))
					}
				}
				checkOnce(t, r, many, out.String(), refused)
			}
		}
	}
}

// checkOnce: of so many frames that were put, what was drained till now, and what is drained then, is each one that wasn't lost.
func checkOnce(t *testing.T, r *ring.Ring, many int, out string, refused map[int]bool) {
	t.Helper()
	whole, begun := parted(t, out)
	if (begun != "") != r.Begun() {
		t.Errorf("%d bytes of a frame are drained, and Begun is %v", len(begun), r.Begun())
	}
	used, held, lost := r.Used(), r.Held(), r.Lost()
	if len(whole)+held+int(lost) != many {
		t.Errorf("%d frames drained, %d held, %d lost, of %d", len(whole), held, lost, many)
	}
	then := r.Drain(math.MaxInt)
	all, rest := parted(t, out+then)
	if rest != "" || len(then) != used || len(all) != len(whole)+held || r.Lost() != lost {
		t.Errorf("%d bytes of %d frames are drained, and %x; %d of %d were held", len(then), len(all)-len(whole), rest, used, held)
	}
	for k, number := range all {
		if k > 0 && all[k-1] >= number {
			t.Errorf("frame %d comes behind %d", number, all[k-1])
		}
		if refused[number] {
			t.Errorf("frame %d was refused, and is drained", number)
		}
	}
}
