package cpu_test

import (
	"fmt"
	"math"
	"math/rand"
	"slices"
	"testing"

	"taffrail/api"
	"taffrail/cpu"
	"taffrail/isa"
)

const (
	word = math.MaxUint32
	half = 1 << 31
)

// spare: what stands in the spare room behind a memory.
const spare = 0xdeadbeef

// errors: those that a call may answer, for what a failing test tells.
var errors = map[api.Errno]string{
	api.OK: "OK", api.ErrNil: "ErrNil", api.ErrCode: "ErrCode", api.ErrDiv: "ErrDiv", api.ErrMem: "ErrMem", api.ErrRange: "ErrRange",
}

// registers: eight unlike words, the first and the last of them 0 and 2^32 - 1 beside small ones.
var registers = [8]uint32{0, 3, 1000003, half, 17, 5, half + 9, word}

// words: the edges that the document names, those next to them, and some that a cut to fewer bits would make small ones.
var words = []uint32{0, 1, 2, 3, 31, 32, 33, 255, 256, 1 << 16, 1<<16 + 1, half - 1, half, half + 1, word - 1, word}

// places: the edges that the document names, and some that a cut to fewer bits would bring near them.
var places = []int{0, 1, 2, 5, 255, 256, 1 << 16, math.MaxInt32, math.MaxInt32 + 1, word, word + 1, math.MaxInt - 1, math.MaxInt, -1, -2, -256, math.MinInt32, math.MinInt, math.MinInt + 1}

// isJump: is it the op of a jump?
func isJump(op int) bool { return op == api.OJmp || op == api.OJz || op == api.OJnz }

// sound: a plain instruction of each op, with registers that are all different.
func sound(op int) api.Instr {
	i := api.Instr{Op: op}
	a, b, c, _, k := isa.Uses(op)
	if a {
		i.A = 4
	}
	if b {
		i.B = 1
	}
	if c {
		i.C = 5
	}
	if k {
		i.K = 2
	}
	return i
}

// context: in memory of its own, with spare room behind it.
func context(at int, regs [8]uint32, mem ...uint32) api.Context {
	room := append(slices.Clone(mem), spare, spare, spare)
	return api.Context{At: at, Regs: regs, Mem: room[:len(mem)]}
}

// apart: the same in new memory, without spare room.
func apart(x api.Context) api.Context {
	x.Mem = slices.Clone(x.Mem)
	return x
}

// same: are two contexts the same?
func same(x, y api.Context) bool {
	return x.At == y.At && x.Regs == y.Regs && slices.Equal(x.Mem, y.Mem)
}

// text: a context as a failing test tells it; of a long memory the first words.
func text(x api.Context) string {
	return fmt.Sprintf("at %d, registers %d, %d words %d", x.At, x.Regs, len(x.Mem), x.Mem[:min(len(x.Mem), 16)])
}

// spoilt: was something put into the spare room of a memory?
func spoilt(x api.Context) bool {
	for _, w := range x.Mem[len(x.Mem):cap(x.Mem)] {
		if w != spare && w != 0 {
			return true
		}
	}
	return false
}

// isDone: Do answers this, and leads a context there.
func isDone(t *testing.T, x api.Context, i api.Instr, want api.Context, err api.Errno) {
	t.Helper()
	for range 2 {
		y := context(x.At, x.Regs, x.Mem...)
		if got := cpu.Do(&y, i); got != err {
			t.Errorf("Do(%s, %+v): %s, not %s", text(x), i, errors[got], errors[err])
		}
		if !same(y, want) {
			t.Errorf("Do(%s, %+v):\n%s, not\n%s", text(x), i, text(y), text(want))
		}
		if spoilt(y) {
			t.Errorf("Do(%s, %+v) changed spare room", text(x), i)
		}
	}
}

// isRefused: Do answers this error, and nothing has changed.
func isRefused(t *testing.T, x api.Context, i api.Instr, err api.Errno) {
	t.Helper()
	isDone(t, x, i, apart(x), err)
}

// isRun: Run answers this, and leads a context there.
func isRun(t *testing.T, x api.Context, code []api.Instr, most int, want api.Context, done int, err api.Errno) {
	t.Helper()
	y := context(x.At, x.Regs, x.Mem...)
	room := append(slices.Clone(code), api.Instr{Op: 99}, api.Instr{Op: 99})
	n, got := cpu.Run(&y, room[:len(code)], most)
	if n != done || got != err {
		t.Errorf("Run(%s, %v, %d): %d, %s, not %d, %s", text(x), code, most, n, errors[got], done, errors[err])
	}
	if !same(y, want) {
		t.Errorf("Run(%s, %v, %d):\n%s, not\n%s", text(x), code, most, text(y), text(want))
	}
	if spoilt(y) {
		t.Errorf("Run(%s, %v, %d) changed spare room", text(x), code, most)
	}
	if !slices.Equal(room[:len(code)], code) || room[len(code)].Op != 99 || room[len(code)+1].Op != 99 {
		t.Errorf("Run(%s, %v, %d) changed the program", text(x), code, most)
	}
}

// bits: a word bit by bit, where of two bits 1 and 0, 0 and 1, 1 and 1 give a 1.
func bits(b, c uint32, left, right, both bool) uint32 {
	sum := uint32(0)
	for k := range 32 {
		l, r := b>>k&1 == 1, c>>k&1 == 1
		if l && !r && left || r && !l && right || l && r && both {
			sum += 1 << k
		}
	}
	return sum
}

// reckoned: the word that rA is, by the chapter's words, for the ops 3 to 14 (of div and mod where c isn't 0).
func reckoned(op int, b, c uint32) uint32 {
	l, r := uint64(b), uint64(c)
	sum := uint64(0)
	switch op {
	case 3:
		sum = l + r
	case 4:
		sum = l + 1<<32 - r
	case 5:
		sum = l * r
	case 6:
		sum = l / r
	case 7:
		sum = l - l/r*r
	case 8:
		return bits(b, c, false, false, true)
	case 9:
		return bits(b, c, true, true, true)
	case 10:
		return bits(b, c, true, true, false)
	case 11:
		for sum = l; r%32 > 0; r-- {
			sum = sum * 2 % (1 << 32)
		}
	case 12:
		for sum = l; r%32 > 0; r-- {
			sum /= 2
		}
	case 13:
		if l < r {
			return 1
		}
	case 14:
		if l == r {
			return 1
		}
	}
	return uint32(sum % (1 << 32))
}

// model: what Do must answer, and the context behind it, by the chapter's words.
func model(x api.Context, i api.Instr) (api.Context, api.Errno) {
	y := apart(x)
	if i.Op < 1 || i.Op > 20 || isa.Form(i) != api.OK {
		return y, api.ErrCode
	}
	address := (uint64(x.Regs[i.B]) + uint64(i.K)) % (1 << 32)
	y.At = x.At + 1
	switch {
	case i.Op == 1:
		y.Regs[i.A] = i.K
	case i.Op == 2:
		y.Regs[i.A] = x.Regs[i.B]
	case (i.Op == 6 || i.Op == 7) && x.Regs[i.C] == 0:
		return apart(x), api.ErrDiv
	case i.Op <= 14:
		y.Regs[i.A] = reckoned(i.Op, x.Regs[i.B], x.Regs[i.C])
	case i.Op <= 16 && address >= uint64(len(x.Mem)):
		return apart(x), api.ErrMem
	case i.Op == 15:
		y.Regs[i.A] = x.Mem[address]
	case i.Op == 16:
		y.Mem[address] = x.Regs[i.A]
	case i.Op == 17, i.Op == 18 && x.Regs[i.A] == 0, i.Op == 19 && x.Regs[i.A] != 0:
		y.At = int(i.K)
	}
	return y, api.OK
}

// run: what Run must answer, and the context behind it, by the chapter's words.
func run(x api.Context, code []api.Instr, most int) (api.Context, int, api.Errno) {
	done := 0
	for done < most && x.At >= 0 && x.At < len(code) {
		y, err := model(x, code[x.At])
		if err != api.OK {
			return x, done, err
		}
		x, done = y, done+1
	}
	return x, done, api.OK
}

// byModel: Do does what the model says.
func byModel(t *testing.T, x api.Context, i api.Instr) {
	t.Helper()
	y, err := model(x, i)
	isDone(t, x, i, y, err)
}

func TestExamplesOfTheChapter(t *testing.T) {
	isRefused(t, context(0, [8]uint32{1: 7}), api.Instr{Op: api.ODiv, A: 3, B: 1, C: 2}, api.ErrDiv)
	isRefused(t, context(0, [8]uint32{2: 1}, 5, 6), api.Instr{Op: api.OLoad, A: 0, B: 2, K: 1}, api.ErrMem)
	isDone(t, context(0, [8]uint32{1: word, 2: 2}), api.Instr{Op: api.OAdd, A: 0, B: 1, C: 2}, context(1, [8]uint32{0: 1, 1: word, 2: 2}), api.OK)
}

// P13.1

// given: what an instruction makes of registers; a jump leads to a place, and all others one further on.
type given struct {
	i            api.Instr
	before, then [8]uint32
}

func TestEachOpWithRegistersAllDifferent(t *testing.T) {
	for _, x := range []given{
		{api.Instr{Op: api.OSet, A: 3, K: 70000}, [8]uint32{1, 2, 3, 4}, [8]uint32{1, 2, 3, 70000}},
		{api.Instr{Op: api.OMov, A: 3, B: 6}, [8]uint32{3: 1, 6: 70000}, [8]uint32{3: 70000, 6: 70000}},
		{api.Instr{Op: api.OAdd, A: 3, B: 6, C: 1}, [8]uint32{1: 20, 3: 9, 6: 300}, [8]uint32{1: 20, 3: 320, 6: 300}},
		{api.Instr{Op: api.OSub, A: 3, B: 6, C: 1}, [8]uint32{1: 20, 3: 9, 6: 300}, [8]uint32{1: 20, 3: 280, 6: 300}},
		{api.Instr{Op: api.OMul, A: 3, B: 6, C: 1}, [8]uint32{1: 20, 3: 9, 6: 300}, [8]uint32{1: 20, 3: 6000, 6: 300}},
		{api.Instr{Op: api.ODiv, A: 3, B: 6, C: 1}, [8]uint32{1: 20, 3: 9, 6: 307}, [8]uint32{1: 20, 3: 15, 6: 307}},
		{api.Instr{Op: api.OMod, A: 3, B: 6, C: 1}, [8]uint32{1: 20, 3: 9, 6: 307}, [8]uint32{1: 20, 3: 7, 6: 307}},
		{api.Instr{Op: api.OAnd, A: 3, B: 6, C: 1}, [8]uint32{1: 0b1100, 6: 0b1010}, [8]uint32{1: 0b1100, 3: 0b1000, 6: 0b1010}},
		{api.Instr{Op: api.OOr, A: 3, B: 6, C: 1}, [8]uint32{1: 0b1100, 6: 0b1010}, [8]uint32{1: 0b1100, 3: 0b1110, 6: 0b1010}},
		{api.Instr{Op: api.OXor, A: 3, B: 6, C: 1}, [8]uint32{1: 0b1100, 6: 0b1010}, [8]uint32{1: 0b1100, 3: 0b0110, 6: 0b1010}},
		{api.Instr{Op: api.OShl, A: 3, B: 6, C: 1}, [8]uint32{1: 4, 6: 0b1010}, [8]uint32{1: 4, 3: 0b10100000, 6: 0b1010}},
		{api.Instr{Op: api.OShr, A: 3, B: 6, C: 1}, [8]uint32{1: 2, 6: 0b1011}, [8]uint32{1: 2, 3: 0b10, 6: 0b1011}},
		{api.Instr{Op: api.OLt, A: 3, B: 6, C: 1}, [8]uint32{1: 20, 3: 9, 6: 19}, [8]uint32{1: 20, 3: 1, 6: 19}},
		{api.Instr{Op: api.OLt, A: 3, B: 6, C: 1}, [8]uint32{1: 20, 3: 9, 6: 20}, [8]uint32{1: 20, 3: 0, 6: 20}},
		{api.Instr{Op: api.OLt, A: 3, B: 6, C: 1}, [8]uint32{1: 20, 3: 9, 6: 21}, [8]uint32{1: 20, 3: 0, 6: 21}},
		{api.Instr{Op: api.OEq, A: 3, B: 6, C: 1}, [8]uint32{1: 20, 3: 9, 6: 19}, [8]uint32{1: 20, 3: 0, 6: 19}},
		{api.Instr{Op: api.OEq, A: 3, B: 6, C: 1}, [8]uint32{1: 20, 3: 9, 6: 20}, [8]uint32{1: 20, 3: 1, 6: 20}},
		{api.Instr{Op: api.OEq, A: 3, B: 6, C: 1}, [8]uint32{1: 20, 3: 9, 6: 21}, [8]uint32{1: 20, 3: 0, 6: 21}},
		{api.Instr{Op: api.OLoad, A: 3, B: 6, K: 2}, [8]uint32{3: 9, 6: 1}, [8]uint32{3: 103, 6: 1}},
		{api.Instr{Op: api.OWork, K: 77}, [8]uint32{1, 2, 3, 4, 5, 6, 7, 8}, [8]uint32{1, 2, 3, 4, 5, 6, 7, 8}},
	} {
		isDone(t, context(40, x.before, 100, 101, 102, 103, 104), x.i, context(41, x.then, 100, 101, 102, 103, 104), api.OK)
	}
	store := api.Instr{Op: api.OStore, A: 3, B: 6, K: 2}
	isDone(t, context(40, [8]uint32{3: 9, 6: 1}, 100, 101, 102, 103, 104), store, context(41, [8]uint32{3: 9, 6: 1}, 100, 101, 102, 9, 104), api.OK)
}

func TestRegistersThatAreTheSame(t *testing.T) {
	for _, x := range []given{
		{api.Instr{Op: api.OMov, A: 2, B: 2}, [8]uint32{2: 7}, [8]uint32{2: 7}},
		{api.Instr{Op: api.OAdd, A: 2, B: 2, C: 2}, [8]uint32{2: 7}, [8]uint32{2: 14}},
		{api.Instr{Op: api.OSub, A: 2, B: 2, C: 2}, [8]uint32{2: 7}, [8]uint32{}},
		{api.Instr{Op: api.OSub, A: 2, B: 2, C: 5}, [8]uint32{2: 7, 5: 3}, [8]uint32{2: 4, 5: 3}},
		{api.Instr{Op: api.OSub, A: 5, B: 2, C: 5}, [8]uint32{2: 7, 5: 3}, [8]uint32{2: 7, 5: 4}},
		{api.Instr{Op: api.OMul, A: 2, B: 2, C: 2}, [8]uint32{2: 7}, [8]uint32{2: 49}},
		{api.Instr{Op: api.ODiv, A: 2, B: 2, C: 2}, [8]uint32{2: 7}, [8]uint32{2: 1}},
		{api.Instr{Op: api.ODiv, A: 2, B: 2, C: 5}, [8]uint32{2: 7, 5: 3}, [8]uint32{2: 2, 5: 3}},
		{api.Instr{Op: api.ODiv, A: 5, B: 2, C: 5}, [8]uint32{2: 7, 5: 3}, [8]uint32{2: 7, 5: 2}},
		{api.Instr{Op: api.OMod, A: 5, B: 2, C: 5}, [8]uint32{2: 7, 5: 3}, [8]uint32{2: 7, 5: 1}},
		{api.Instr{Op: api.OXor, A: 2, B: 2, C: 2}, [8]uint32{2: 7}, [8]uint32{}},
		{api.Instr{Op: api.OAnd, A: 2, B: 2, C: 2}, [8]uint32{2: 7}, [8]uint32{2: 7}},
		{api.Instr{Op: api.OOr, A: 2, B: 2, C: 2}, [8]uint32{2: 7}, [8]uint32{2: 7}},
		{api.Instr{Op: api.OShl, A: 2, B: 2, C: 2}, [8]uint32{2: 7}, [8]uint32{2: 7 << 7}},
		{api.Instr{Op: api.OShl, A: 5, B: 2, C: 5}, [8]uint32{2: 7, 5: 3}, [8]uint32{2: 7, 5: 56}},
		{api.Instr{Op: api.OShr, A: 2, B: 2, C: 2}, [8]uint32{2: 7}, [8]uint32{}},
		{api.Instr{Op: api.OShr, A: 5, B: 2, C: 5}, [8]uint32{2: 72, 5: 3}, [8]uint32{2: 72, 5: 9}},
		{api.Instr{Op: api.OLt, A: 2, B: 2, C: 2}, [8]uint32{2: 7}, [8]uint32{}},
		{api.Instr{Op: api.OLt, A: 2, B: 2, C: 5}, [8]uint32{2: 7, 5: 8}, [8]uint32{2: 1, 5: 8}},
		{api.Instr{Op: api.OEq, A: 2, B: 2, C: 2}, [8]uint32{2: 7}, [8]uint32{2: 1}},
		{api.Instr{Op: api.OLoad, A: 2, B: 2, K: 1}, [8]uint32{2: 1}, [8]uint32{2: 102}},
	} {
		isDone(t, context(0, x.before, 100, 101, 102), x.i, context(1, x.then, 100, 101, 102), api.OK)
	}
	store := api.Instr{Op: api.OStore, A: 2, B: 2, K: 1}
	isDone(t, context(0, [8]uint32{2: 1}, 100, 101, 102), store, context(1, [8]uint32{2: 1}, 100, 101, 1), api.OK)
	for _, op := range []int{api.ODiv, api.OMod} {
		isRefused(t, context(0, [8]uint32{1: 7}), api.Instr{Op: op, A: 2, B: 2, C: 2}, api.ErrDiv)
		isRefused(t, context(0, [8]uint32{1: 7}), api.Instr{Op: op, A: 2, B: 1, C: 2}, api.ErrDiv)
	}
}

func TestAllRegistersOfEachOp(t *testing.T) {
	mem := []uint32{50, 51, 52, 53, 54, 55}
	for op := 1; op <= 20; op++ {
		for abc := range 512 {
			i := sound(op)
			a, b, c, _, _ := isa.Uses(op)
			if a {
				i.A = abc & 7
			}
			if b {
				i.B = abc >> 3 & 7
			}
			if c {
				i.C = abc >> 6
			}
			byModel(t, context(7, registers, mem...), i)
			byModel(t, context(7, [8]uint32{5, 4, 3, 2, 1, 0, 3, 1}, mem...), i)
		}
	}
}

func TestWordsAtTheEdges(t *testing.T) {
	for op := 3; op <= 14; op++ {
		for _, b := range words {
			for _, c := range words {
				byModel(t, context(0, [8]uint32{9, b, c}), api.Instr{Op: op, A: 0, B: 1, C: 2})
				byModel(t, context(0, [8]uint32{c, 9, 9, 9, 9, 9, 9, b}), api.Instr{Op: op, A: 3, B: 7, C: 0})
				byModel(t, context(0, [8]uint32{9, b, c}), api.Instr{Op: op, A: 1, B: 1, C: 2})
				byModel(t, context(0, [8]uint32{9, b, c}), api.Instr{Op: op, A: 2, B: 1, C: 2})
			}
			byModel(t, context(0, [8]uint32{9, b}), api.Instr{Op: op, A: 0, B: 1, C: 1})
			byModel(t, context(0, [8]uint32{9, b}), api.Instr{Op: op, A: 1, B: 1, C: 1})
		}
	}
	for _, w := range words {
		isDone(t, context(0, registers), api.Instr{Op: api.OSet, A: 0, K: w}, context(1, [8]uint32{w, 3, 1000003, half, 17, 5, half + 9, word}), api.OK)
		isDone(t, context(0, [8]uint32{7: w}), api.Instr{Op: api.OMov, A: 0, B: 7}, context(1, [8]uint32{0: w, 7: w}), api.OK)
		isDone(t, context(0, [8]uint32{7: 1, 0: w}), api.Instr{Op: api.OMov, A: 7, B: 0}, context(1, [8]uint32{0: w, 7: w}), api.OK)
		isDone(t, context(0, [8]uint32{}, 4, w), api.Instr{Op: api.OLoad, A: 7, B: 0, K: 1}, context(1, [8]uint32{7: w}, 4, w), api.OK)
		isDone(t, context(0, [8]uint32{7: w}, 4, 5), api.Instr{Op: api.OStore, A: 7, B: 0, K: 1}, context(1, [8]uint32{7: w}, 4, w), api.OK)
	}
}

// isReckoned: an op makes this word of two others.
func isReckoned(t *testing.T, op int, b, c, want uint32) {
	t.Helper()
	isDone(t, context(0, [8]uint32{1: 9, 2: b, 3: c}), api.Instr{Op: op, A: 1, B: 2, C: 3}, context(1, [8]uint32{1: want, 2: b, 3: c}), api.OK)
}

func TestBeyond32Bits(t *testing.T) {
	isReckoned(t, api.OAdd, word, 1, 0)
	isReckoned(t, api.OAdd, word, word, word-1)
	isReckoned(t, api.OAdd, half, half, 0)
	isReckoned(t, api.OAdd, half, half-1, word)
	isReckoned(t, api.OSub, 0, 1, word)
	isReckoned(t, api.OSub, 0, word, 1)
	isReckoned(t, api.OSub, 1, half, half+1)
	isReckoned(t, api.OSub, 0, half, half)
	isReckoned(t, api.OMul, word, word, 1)
	isReckoned(t, api.OMul, half, 2, 0)
	isReckoned(t, api.OMul, half, 3, half)
	isReckoned(t, api.OMul, 1<<16, 1<<16, 0)
	isReckoned(t, api.OMul, 1<<16+1, 1<<16, 1<<16)
	isReckoned(t, api.OMul, word, 2, word-1)
}

func TestDivAndMod(t *testing.T) {
	for _, b := range words {
		isReckoned(t, api.ODiv, b, 1, b)
		isReckoned(t, api.OMod, b, 1, 0)
		for _, op := range []int{api.ODiv, api.OMod} {
			isRefused(t, context(3, [8]uint32{1: 9, 2: b}, 1, 2), api.Instr{Op: op, A: 1, B: 2, C: 3}, api.ErrDiv)
		}
	}
	isReckoned(t, api.ODiv, word, word, 1)
	isReckoned(t, api.OMod, word, word, 0)
	isReckoned(t, api.ODiv, word-1, word, 0)
	isReckoned(t, api.OMod, word-1, word, word-1)
	isReckoned(t, api.ODiv, 0, word, 0)
	isReckoned(t, api.OMod, 0, word, 0)
	isReckoned(t, api.ODiv, half, word, 0)
	isReckoned(t, api.OMod, half, word, half)
	isReckoned(t, api.ODiv, word, half, 1)
	isReckoned(t, api.OMod, word, half, half-1)
	isReckoned(t, api.ODiv, word, 2, half-1)
	isReckoned(t, api.OMod, word, 2, 1)
	isReckoned(t, api.ODiv, word, 10, 429496729)
	isReckoned(t, api.OMod, word, 10, 5)
}

func TestShifts(t *testing.T) {
	for _, x := range []struct{ by, left, right uint32 }{
		{0, 0x80000005, 0x80000005},
		{1, 0x0000000a, 0x40000002},
		{4, 0x00000050, 0x08000000},
		{31, 0x80000000, 0x00000001},
		{32, 0x80000005, 0x80000005},
		{33, 0x0000000a, 0x40000002},
		{36, 0x00000050, 0x08000000},
		{63, 0x80000000, 0x00000001},
		{64, 0x80000005, 0x80000005},
		{255, 0x80000000, 0x00000001},
		{256, 0x80000005, 0x80000005},
		{half, 0x80000005, 0x80000005},
		{half + 1, 0x0000000a, 0x40000002},
		{word - 31, 0x80000005, 0x80000005},
		{word - 30, 0x0000000a, 0x40000002},
		{word, 0x80000000, 0x00000001},
	} {
		isReckoned(t, api.OShl, 0x80000005, x.by, x.left)
		isReckoned(t, api.OShr, 0x80000005, x.by, x.right)
	}
	for by := range uint32(200) {
		for _, b := range words {
			isReckoned(t, api.OShl, b, by, reckoned(11, b, by))
			isReckoned(t, api.OShr, b, by, reckoned(12, b, by))
		}
	}
}

func TestLtAndEqHaveNoSign(t *testing.T) {
	for k, b := range words {
		for l, c := range words {
			isReckoned(t, api.OLt, b, c, one(k < l))
			isReckoned(t, api.OEq, b, c, one(k == l))
		}
	}
	isReckoned(t, api.OLt, half-1, half, 1)
	isReckoned(t, api.OLt, half, half-1, 0)
	isReckoned(t, api.OLt, 0, word, 1)
	isReckoned(t, api.OLt, word, 0, 0)
}

// one: 1, if it is so.
func one(so bool) uint32 {
	if so {
		return 1
	}
	return 0
}

// numbered: a memory of so many words, all unlike.
func numbered(size int) []uint32 {
	mem := make([]uint32, size)
	for k := range mem {
		mem[k] = uint32(1000000 + k)
	}
	return mem
}

// isAt: a load and a store reach the word at this address, or are refused where there is none.
func isAt(t *testing.T, mem []uint32, b, k uint32, address uint64) {
	t.Helper()
	regs := [8]uint32{2: 9, 6: b}
	load := api.Instr{Op: api.OLoad, A: 2, B: 6, K: k}
	store := api.Instr{Op: api.OStore, A: 2, B: 6, K: k}
	x := context(5, regs, mem...)
	if address >= uint64(len(mem)) {
		isRefused(t, x, load, api.ErrMem)
		isRefused(t, x, store, api.ErrMem)
		return
	}
	y := context(6, regs, mem...)
	y.Regs[2] = mem[address]
	isDone(t, x, load, y, api.OK)
	y = context(6, regs, mem...)
	y.Mem[address] = 9
	isDone(t, x, store, y, api.OK)
}

func TestAddresses(t *testing.T) {
	for _, size := range []int{0, 1, 2, 3, 5, 255, 256, 257, 1<<16 + 1} {
		mem := numbered(size)
		n := uint32(size)
		for _, address := range []uint32{0, 1, n / 2, n - 2, n - 1, n, n + 1, 1 << 8, 1 << 16, 1<<16 + 1, half, half - 1, word - 1, word} {
			for _, k := range []uint32{0, 1, 2, address, address + 1, n, half, word, word - 1} {
				isAt(t, mem, address-k, k, uint64(address))
			}
		}
	}
	isAt(t, nil, 0, 0, 0)
	isAt(t, []uint32{}, word, 1, 0)
	isAt(t, []uint32{7}, 0, 0, 0)
	isAt(t, []uint32{7}, word, 1, 0)
	isAt(t, []uint32{7}, 1, word, 0)
	isAt(t, []uint32{7}, 0, 1, 1)
	isAt(t, []uint32{7}, 1, 0, 1)
	isAt(t, []uint32{7, 8}, word, 2, 1)
	isAt(t, []uint32{7, 8}, word, 3, 2)
	isAt(t, []uint32{7, 8}, half, half, 0)
	isAt(t, []uint32{7, 8}, half+1, half, 1)
}

func TestAMemoryThatIsNil(t *testing.T) {
	for _, op := range []int{api.OLoad, api.OStore} {
		for _, w := range words {
			x := api.Context{At: 3, Regs: [8]uint32{w, w}}
			if err := cpu.Do(&x, api.Instr{Op: op, A: 1}); err != api.ErrMem || !same(x, api.Context{At: 3, Regs: [8]uint32{w, w}}) {
				t.Errorf("op %d of a memory that is nil: %s, %s", op, errors[err], text(x))
			}
		}
	}
	for op := 1; op <= 20; op++ {
		x := api.Context{Regs: registers}
		y, want := model(x, sound(op))
		if err := cpu.Do(&x, sound(op)); err != want || !same(x, y) {
			t.Errorf("op %d beside a memory that is nil: %s, %s", op, errors[err], text(x))
		}
	}
}

func TestEachAddressOfAMemory(t *testing.T) {
	mem := numbered(api.MaxMem)
	for address := range uint32(api.MaxMem + 2) {
		isAt(t, mem, address, 0, uint64(address))
		isAt(t, mem, 0, address, uint64(address))
		isAt(t, mem, address/2, address-address/2, uint64(address))
		isAt(t, mem, address+77, word-76, uint64(address))
	}
}

// isPlace: an instruction leads to this place and changes nothing else.
func isPlace(t *testing.T, at int, i api.Instr, word uint32, want int) {
	t.Helper()
	regs := [8]uint32{8, 8, 8, 8, 8, 8, 8, 8}
	regs[i.A] = word
	isDone(t, context(at, regs, 1, 2), i, context(want, regs, 1, 2), api.OK)
}

func TestJumps(t *testing.T) {
	for _, at := range places {
		for _, k := range []uint32{0, 1, 5, 6, 255, 256, 257, 1 << 16, half - 1, half, word - 1, word, uint32(at), uint32(at + 1)} {
			isPlace(t, at, api.Instr{Op: api.OJmp, K: k}, 0, int(k))
			isPlace(t, at, api.Instr{Op: api.OJmp, K: k}, 1, int(k))
			for _, a := range []int{0, 3, 7} {
				jz, jnz := api.Instr{Op: api.OJz, A: a, K: k}, api.Instr{Op: api.OJnz, A: a, K: k}
				isPlace(t, at, jz, 0, int(k))
				isPlace(t, at, jnz, 0, at+1)
				for _, w := range words[1:] {
					isPlace(t, at, jz, w, at+1)
					isPlace(t, at, jnz, w, int(k))
				}
			}
		}
	}
}

func TestAJumpAsksItsRegisterForEachBit(t *testing.T) {
	for k := range 32 {
		isPlace(t, 3, api.Instr{Op: api.OJz, A: 2, K: 9}, 1<<k, 4)
		isPlace(t, 3, api.Instr{Op: api.OJnz, A: 2, K: 9}, 1<<k, 9)
	}
}

func TestThePlaceBehindEachOp(t *testing.T) {
	mem := numbered(8)
	for _, at := range places {
		for op := 1; op <= 20; op++ {
			x := context(at, registers, mem...)
			if err := cpu.Do(&x, sound(op)); err != api.OK {
				t.Fatalf("op %d at %d: %s", op, at, errors[err])
			}
			want := at + 1
			if op == api.OJmp || op == api.OJnz {
				want = 2
			}
			if x.At != want {
				t.Errorf("op %d at %d: then at %d, not %d", op, at, x.At, want)
			}
		}
	}
}

func TestWorkDoesNothing(t *testing.T) {
	for k := uint32(1); k <= api.MaxWork; k++ {
		isDone(t, context(2, registers, 7, 8, 9), api.Instr{Op: api.OWork, K: k}, context(3, registers, 7, 8, 9), api.OK)
	}
}

// Errors of P13.1

func TestDoOfAContextThatIsNone(t *testing.T) {
	for op := -1; op <= 40; op++ {
		for _, a := range []int{0, 4, 8, -1} {
			for _, k := range []uint32{0, 1, word} {
				if err := cpu.Do(nil, api.Instr{Op: op, A: a, K: k}); err != api.ErrNil {
					t.Errorf("Do(nil, op %d): %s, not ErrNil", op, errors[err])
				}
			}
		}
	}
	if err := cpu.Do(nil, api.Instr{Op: api.ODiv}); err != api.ErrNil {
		t.Errorf("Do(nil, div): %s, not ErrNil", errors[err])
	}
}

func TestOpsThatAreNotPlain(t *testing.T) {
	for op := 21; op <= 38; op++ {
		for abc := range 512 {
			i := api.Instr{Op: op, K: uint32(abc % 16)}
			a, b, c, d, k := isa.Uses(op)
			if a {
				i.A = abc & 7
			}
			if b {
				i.B = abc >> 3 & 7
			}
			if d {
				i.D = abc % 3
			}
			if c && (!d || i.D == api.MTimed) {
				i.C = abc >> 6
			}
			if !k {
				i.K = 0
			}
			if err := isa.Form(i); err != api.OK {
				t.Fatalf("%+v can't be: %s", i, errors[err])
			}
			isRefused(t, context(7, registers, 1, 2, 3), i, api.ErrCode)
		}
	}
}

func TestOpsThatAreNone(t *testing.T) {
	for _, op := range []int{0, -1, -2, -17, -20, -236, math.MinInt, math.MinInt + 1, math.MinInt + 15, math.MinInt32, 39, 40, 64, 65, 128, 255, 256, 257, 256 + 17, 1 << 16, 1<<16 + 3, 1 << 32, 1<<32 + 1, 1<<32 + 20, math.MaxInt32, math.MaxInt - 1, math.MaxInt} {
		isRefused(t, context(7, registers, 1, 2, 3), api.Instr{Op: op}, api.ErrCode)
		isRefused(t, context(7, registers, 1, 2, 3), api.Instr{Op: op, A: 1, B: 2, C: 3, K: 5}, api.ErrCode)
	}
}

func TestInstructionsThatFormRefuses(t *testing.T) {
	wrong := []int{-1, 1, 8, 9, 256, 257, 1 << 32, 1<<32 + 1, math.MinInt, math.MinInt + 1, math.MaxInt}
	for op := 1; op <= 20; op++ {
		refused := 0
		for _, n := range wrong {
			for field := range 4 {
				i := sound(op)
				*[]*int{&i.A, &i.B, &i.C, &i.D}[field] = n
				if isa.Form(i) == api.OK {
					continue
				}
				refused++
				isRefused(t, context(7, registers, 1, 2, 3), i, api.ErrCode)
				isRefused(t, context(7, [8]uint32{}), i, api.ErrCode)
			}
		}
		if refused < 2*len(wrong) {
			t.Errorf("of op %d only %d were refused", op, refused)
		}
		for _, k := range words {
			i := sound(op)
			i.K = k
			byModel(t, context(7, registers, 1, 2, 3), i)
		}
	}
}

// TestFormsAreRefusedByTheWords: some of them written out, so that isa has no say in what is wanted.
func TestFormsAreRefusedByTheWords(t *testing.T) {
	for _, i := range []api.Instr{
		{Op: api.OSet, A: 8, K: 1},
		{Op: api.OSet, A: -1, K: 1},
		{Op: api.OSet, B: 1, K: 1},
		{Op: api.OMov, A: 1, B: 8},
		{Op: api.OMov, A: 1, B: 2, C: 3},
		{Op: api.OMov, A: 1, B: 2, K: 3},
		{Op: api.OAdd, A: 1, B: 2, C: 8},
		{Op: api.OAdd, A: 1, B: 2, C: -8},
		{Op: api.OAdd, A: 1, B: 2, C: 3, K: 1},
		{Op: api.OAdd, A: 1, B: 2, C: 3, D: 1},
		{Op: api.OLoad, A: 1, B: 2, C: 1},
		{Op: api.OStore, A: 1, B: 2, C: 1},
		{Op: api.OStore, A: 1, B: 8},
		{Op: api.OJmp, A: 1},
		{Op: api.OJz, A: 8},
		{Op: api.OJnz, A: 1, B: 1},
		{Op: api.OWork},
		{Op: api.OWork, K: 1001},
		{Op: api.OWork, K: word},
		{Op: api.OWork, K: 1, A: 1},
	} {
		isRefused(t, context(7, [8]uint32{0, 1, 2, 3, 4, 5, 6, 7}, 1, 2, 3, 4), i, api.ErrCode)
	}
}

func TestErrCodeIsToldFirst(t *testing.T) {
	x := context(7, [8]uint32{}, 1)
	isRefused(t, x, api.Instr{Op: api.ODiv, A: 8}, api.ErrCode)
	isRefused(t, x, api.Instr{Op: api.ODiv, A: 1, B: 2, C: 3, D: 1}, api.ErrCode)
	isRefused(t, x, api.Instr{Op: api.OMod, A: 1, B: 2, C: 3, K: 1}, api.ErrCode)
	isRefused(t, x, api.Instr{Op: api.OLoad, A: 8, K: 1}, api.ErrCode)
	isRefused(t, x, api.Instr{Op: api.OStore, A: 1, B: 2, C: 3, K: 1}, api.ErrCode)
	isRefused(t, x, api.Instr{Op: api.ODiv, A: 1, B: 2, C: 3}, api.ErrDiv)
	isRefused(t, x, api.Instr{Op: api.OLoad, A: 1, K: 1}, api.ErrMem)
}

func TestErrorsLeaveAllAsItWas(t *testing.T) {
	for _, at := range places {
		for _, i := range []api.Instr{
			{Op: api.ODiv, A: 1, B: 2, C: 0},
			{Op: api.OMod, A: 0, B: 0, C: 0},
			{Op: api.OMod, A: 7, B: 7, C: 0},
		} {
			isRefused(t, context(at, registers, 1, 2, 3), i, api.ErrDiv)
		}
		for _, i := range []api.Instr{
			{Op: api.OLoad, A: 0, B: 0, K: 3},
			{Op: api.OStore, A: 7, B: 0, K: 3},
			{Op: api.OLoad, A: 1, B: 1, K: 0},
			{Op: api.OStore, A: 1, B: 7, K: 0},
		} {
			isRefused(t, context(at, registers, 1, 2, 3), i, api.ErrMem)
		}
		for _, i := range []api.Instr{{}, {Op: api.OIn}, {Op: api.OYield}, {Op: api.OIret}, {Op: api.OSet, A: 8, K: 4}, {Op: api.OJmp, A: 1, K: 4}, {Op: api.OJnz, A: 7, B: 1, K: 4}} {
			isRefused(t, context(at, registers, 1, 2, 3), i, api.ErrCode)
		}
	}
}

// P13.2

// sums: the sum of 5 .. 1, kept in the memory.
func sums() []api.Instr {
	return []api.Instr{
		{Op: api.OSet, A: 1, K: 5}, {Op: api.OSet, A: 2, K: 1},
		{Op: api.OAdd, A: 0, B: 0, C: 1}, {Op: api.OSub, A: 1, B: 1, C: 2}, {Op: api.OJnz, A: 1, K: 2},
		{Op: api.OStore, A: 0, B: 1, K: 1},
	}
}

func TestRunAsManyAsMayBe(t *testing.T) {
	x := context(0, [8]uint32{}, 0, 0)
	for _, most := range []int{math.MinInt, math.MinInt + 1, math.MinInt32, -256, -1, 0} {
		isRun(t, x, sums(), most, x, 0, api.OK)
	}
	isRun(t, x, sums(), 1, context(1, [8]uint32{1: 5}, 0, 0), 1, api.OK)
	isRun(t, x, sums(), 5, context(2, [8]uint32{5, 4, 1}, 0, 0), 5, api.OK)
	isRun(t, x, sums(), 17, context(5, [8]uint32{15, 0, 1}, 0, 0), 17, api.OK)
	whole := context(6, [8]uint32{15, 0, 1}, 0, 15)
	for _, most := range []int{18, 19, 20, 256, 1 << 16, 1 << 32, math.MaxInt32, math.MaxInt - 1, math.MaxInt} {
		isRun(t, x, sums(), most, whole, 18, api.OK)
	}
	for most := range 25 {
		y, done, err := run(x, sums(), most)
		isRun(t, x, sums(), most, y, done, err)
	}
}

func TestRunOfNoProgram(t *testing.T) {
	for _, at := range places {
		for _, most := range []int{math.MinInt, -1, 0, 1, 2, math.MaxInt} {
			x := context(at, registers, 1, 2)
			isRun(t, x, nil, most, x, 0, api.OK)
			isRun(t, x, []api.Instr{}, most, x, 0, api.OK)
			y := apart(x)
			if n, err := cpu.Run(&y, nil, most); n != 0 || err != api.OK || !same(x, y) {
				t.Errorf("Run of nil at %d, %d: %d, %s", at, most, n, errors[err])
			}
		}
	}
}

func TestRunOfAContextThatIsNone(t *testing.T) {
	for _, code := range [][]api.Instr{nil, {}, sums(), {{Op: 99}}} {
		for _, most := range []int{math.MinInt, -1, 0, 1, 5, math.MaxInt} {
			if n, err := cpu.Run(nil, code, most); n != 0 || err != api.ErrNil {
				t.Errorf("Run(nil, %v, %d): %d, %s", code, most, n, errors[err])
			}
		}
	}
}

func TestRunAtPlaces(t *testing.T) {
	code := []api.Instr{{Op: api.OSet, A: 0, K: 1}, {Op: api.OSet, A: 1, K: 2}, {Op: api.OSet, A: 2, K: 3}}
	isRun(t, context(0, [8]uint32{}), code, 9, context(3, [8]uint32{1, 2, 3}), 3, api.OK)
	isRun(t, context(1, [8]uint32{}), code, 9, context(3, [8]uint32{0, 2, 3}), 2, api.OK)
	isRun(t, context(2, [8]uint32{}), code, 9, context(3, [8]uint32{0, 0, 3}), 1, api.OK)
	for _, at := range append([]int{3, 4, 1 << 32, 1<<32 + 1, math.MaxInt32 - 1, -3, math.MinInt + 2}, places...) {
		if at >= 0 && at < 3 {
			continue
		}
		for _, most := range []int{-1, 0, 1, 9, math.MaxInt} {
			x := context(at, registers, 7)
			isRun(t, x, code, most, x, 0, api.OK)
		}
	}
}

func TestRunBehindJumps(t *testing.T) {
	// A jump may lead out of the program; then nothing more is done.
	for _, k := range []uint32{3, 4, 256, half, word - 1, word} {
		code := []api.Instr{{Op: api.OSet, A: 0, K: 1}, {Op: api.OJmp, K: k}, {Op: api.OSet, A: 0, K: 2}}
		isRun(t, context(0, [8]uint32{}), code, 100, context(int(k), [8]uint32{1}), 2, api.OK)
	}
	ahead := []api.Instr{{Op: api.OJmp, K: 2}, {Op: 99}, {Op: api.OSet, A: 0, K: 2}}
	isRun(t, context(0, [8]uint32{}), ahead, 100, context(3, [8]uint32{2}), 2, api.OK)
	last := []api.Instr{{Op: api.OJz, A: 1, K: 3}, {Op: 99}, {Op: 99}, {Op: api.OSet, A: 1, K: 1}}
	isRun(t, context(0, [8]uint32{}), last, 100, context(4, [8]uint32{1: 1}), 2, api.OK)
	isRun(t, context(0, [8]uint32{1: 4}), last, 100, context(1, [8]uint32{1: 4}), 1, api.ErrCode)
}

func TestRunUpToAnError(t *testing.T) {
	for _, wrong := range []struct {
		i   api.Instr
		err api.Errno
	}{
		{api.Instr{}, api.ErrCode},
		{api.Instr{Op: -1}, api.ErrCode},
		{api.Instr{Op: 39}, api.ErrCode},
		{api.Instr{Op: api.OYield}, api.ErrCode},
		{api.Instr{Op: api.OIn, A: 1}, api.ErrCode},
		{api.Instr{Op: api.OSet, A: 8}, api.ErrCode},
		{api.Instr{Op: api.OWork}, api.ErrCode},
		{api.Instr{Op: api.ODiv, A: 1, B: 0, C: 7}, api.ErrDiv},
		{api.Instr{Op: api.OMod, A: 1, B: 0, C: 7}, api.ErrDiv},
		{api.Instr{Op: api.OLoad, A: 1, B: 7, K: 2}, api.ErrMem},
		{api.Instr{Op: api.OStore, A: 0, B: 7, K: word}, api.ErrMem},
	} {
		for _, size := range []int{1, 2, 3, 9, 256} {
			for _, place := range []int{0, size / 2, size - 1} {
				code := slices.Repeat([]api.Instr{{Op: api.OAdd, A: 0, B: 0, C: 6}}, size)
				code[place] = wrong.i
				x := context(0, [8]uint32{6: 3}, 8, 9)
				y := context(place, [8]uint32{0: uint32(3 * place), 6: 3}, 8, 9)
				for _, most := range []int{place + 1, place + 2, size, 1000, math.MaxInt} {
					if most > place {
						isRun(t, x, code, most, y, place, wrong.err)
					}
				}
				// One fewer, and the wrong one isn't come to.
				isRun(t, x, code, place, y, place, api.OK)
				isRun(t, x, code, 0, x, 0, api.OK)
			}
		}
	}
}

func TestRunTellsTheFirstError(t *testing.T) {
	code := []api.Instr{{Op: api.OWork, K: 1}, {Op: api.ODiv, C: 1}, {Op: 99}, {Op: api.OLoad}}
	isRun(t, context(0, [8]uint32{}), code, 100, context(1, [8]uint32{}), 1, api.ErrDiv)
	isRun(t, context(1, [8]uint32{}), code, 100, context(1, [8]uint32{}), 0, api.ErrDiv)
	isRun(t, context(2, [8]uint32{}), code, 100, context(2, [8]uint32{}), 0, api.ErrCode)
	isRun(t, context(3, [8]uint32{}), code, 100, context(3, [8]uint32{}), 0, api.ErrMem)
	// Once told, it is told again: the context stands where it stood.
	x := context(0, [8]uint32{})
	for k, want := range []int{1, 0, 0} {
		if n, err := cpu.Run(&x, code, 100); n != want || err != api.ErrDiv || x.At != 1 {
			t.Errorf("the %dth time: %d, %s, at %d", k+1, n, errors[err], x.At)
		}
	}
}

func TestRunOfALoop(t *testing.T) {
	itself := []api.Instr{{Op: api.OWork, K: 1}, {Op: api.OJmp, K: 1}}
	counts := []api.Instr{{Op: api.OAdd, A: 0, B: 0, C: 1}, {Op: api.OJmp, K: 0}}
	for _, most := range []int{0, 1, 2, 3, 4, 255, 256, 257, 1000, 1<<16 - 1, 1 << 16, 1<<16 + 1, 1 << 20} {
		isRun(t, context(1, registers, 5), itself, most, context(1, registers, 5), most, api.OK)
		isRun(t, context(0, [8]uint32{1: 1}), counts, most, context(most%2, [8]uint32{uint32(most+1) / 2, 1}), most, api.OK)
	}
}

// P13.3

// made: a plain instruction, for a program of so many beside a memory of about eight words.
func made(r *rand.Rand, size int) api.Instr {
	i := api.Instr{Op: 1 + r.Intn(20)}
	a, b, c, _, k := isa.Uses(i.Op)
	if a {
		i.A = r.Intn(8)
	}
	if b {
		i.B = r.Intn(8)
	}
	if c {
		i.C = r.Intn(8)
	}
	if k {
		i.K = uint32(r.Intn(4))
	}
	switch {
	case isJump(i.Op):
		i.K = uint32(r.Intn(size + 1))
	case i.Op == api.OWork:
		i.K++
	case i.Op == api.OSet && r.Intn(3) == 0:
		i.K = words[r.Intn(len(words))]
	}
	return i
}

// program: a made one; now and then something stands in it that isn't plain, or can't be.
func program(r *rand.Rand) []api.Instr {
	code := make([]api.Instr, 1+r.Intn(20))
	for k := range code {
		code[k] = made(r, len(code))
		if r.Intn(40) == 0 {
			code[k] = api.Instr{Op: r.Intn(40), A: r.Intn(9)}
		}
	}
	return code
}

// begun: a made context, for a program of so many.
func begun(r *rand.Rand, size int) api.Context {
	x := context(r.Intn(size), [8]uint32{}, numbered(r.Intn(9))...)
	for k := range x.Regs {
		x.Regs[k] = uint32(r.Intn(6))
		if r.Intn(4) == 0 {
			x.Regs[k] = words[r.Intn(len(words))]
		}
	}
	return x
}

func TestRunOfMadePrograms(t *testing.T) {
	r := rand.New(rand.NewSource(13))
	told, ops := map[api.Errno]int{}, map[int]int{}
	for range 20000 {
		code := program(r)
		x := begun(r, len(code))
		most := r.Intn(60)
		y, done, err := run(x, code, most)
		isRun(t, x, code, most, y, done, err)
		told[err]++
		if done > 0 {
			ops[code[x.At].Op]++
		}
		if t.Failed() {
			return
		}
	}
	for _, err := range []api.Errno{api.OK, api.ErrCode, api.ErrDiv, api.ErrMem} {
		if told[err] < 100 {
			t.Errorf("only %d runs came to %s", told[err], errors[err])
		}
	}
	for op := 1; op <= 20; op++ {
		if ops[op] < 100 {
			t.Errorf("only %d runs began with op %d", ops[op], op)
		}
	}
}

func TestDoOfMadeInstructions(t *testing.T) {
	r := rand.New(rand.NewSource(14))
	for range 50000 {
		byModel(t, begun(r, 20), made(r, 20))
		byModel(t, begun(r, 20), api.Instr{Op: r.Intn(22), A: r.Intn(9), B: r.Intn(9), C: r.Intn(9), D: r.Intn(20) / 19, K: uint32(r.Intn(8))})
		if t.Failed() {
			return
		}
	}
}

func TestRunByPartsIsRun(t *testing.T) {
	r := rand.New(rand.NewSource(15))
	programs := [][]api.Instr{sums(), {{Op: api.OAdd, A: 0, B: 0, C: 1}, {Op: api.OJmp, K: 0}}, {{Op: api.OJmp, K: 0}}, {{Op: api.OWork, K: 1}, {Op: api.ODiv, A: 1}}}
	for range 300 {
		programs = append(programs, program(r))
	}
	const most = 40
	for k, code := range programs {
		first := begun(r, len(code))
		if k < 4 {
			first = context(0, [8]uint32{}, 0, 0)
		}
		whole := context(first.At, first.Regs, first.Mem...)
		all, err := cpu.Run(&whole, code, most)
		for place := range most + 1 {
			x := context(first.At, first.Regs, first.Mem...)
			n, e := cpu.Run(&x, code, place)
			if n < place && e != err || n == place && e != api.OK || n > place {
				t.Errorf("program %d, %d of %d: %d, %s, not %s", k, place, most, n, errors[e], errors[err])
			}
			// Behind an error, and outside the program, the rest comes to the same once more.
			rest, e := cpu.Run(&x, code, most-n)
			if n+rest != all || e != err || !same(x, whole) {
				t.Fatalf("program %d parted at %d: %d and %d, %s, %s\nnot %d, %s, %s", k, place, n, rest, errors[e], text(x), all, errors[err], text(whole))
			}
		}
	}
}

func TestRunOneByOneIsRunAndDo(t *testing.T) {
	r := rand.New(rand.NewSource(16))
	for range 1000 {
		code := program(r)
		first := begun(r, len(code))
		whole, x, y := apart(first), apart(first), apart(first)
		all, err := cpu.Run(&whole, code, 50)
		for done := range 50 {
			if x.At < 0 || x.At >= len(code) {
				break
			}
			want := cpu.Do(&y, code[y.At])
			n, e := cpu.Run(&x, code, 1)
			if e != want || n != int(one(e == api.OK)) || !same(x, y) {
				t.Fatalf("the %dth: Run told %d, %s, Do %s", done+1, n, errors[e], errors[want])
			}
			if e != api.OK {
				if done != all || e != err {
					t.Fatalf("one by one: %d, %s, not %d, %s", done, errors[e], all, errors[err])
				}
				break
			}
		}
		if !same(x, whole) {
			t.Fatalf("one by one: %s, not %s", text(x), text(whole))
		}
	}
}

func TestTheMemoryStaysAsLongAsItIs(t *testing.T) {
	for _, size := range []int{0, 1, 2, 255, 256, 257, 1000} {
		for op := 1; op <= 20; op++ {
			i := sound(op)
			x := context(0, registers, numbered(size)...)
			cpu.Do(&x, i)
			if len(x.Mem) != size || spoilt(x) {
				t.Errorf("op %d: a memory of %d words has %d", op, size, len(x.Mem))
			}
			if op != api.OStore && !slices.Equal(x.Mem, numbered(size)) {
				t.Errorf("op %d changed the memory", op)
			}
		}
	}
}

func TestEachContextItsOwn(t *testing.T) {
	// Two that run in turns end as each of them alone; what an error left behind in one hangs on nothing.
	x, y := context(0, [8]uint32{}, 0, 0), context(0, [8]uint32{7: 1}, 0, 0)
	other := []api.Instr{{Op: api.OAdd, A: 3, B: 3, C: 7}, {Op: api.OStore, A: 3, B: 4, K: 1}, {Op: api.OJmp, K: 0}}
	for range 18 {
		cpu.Run(&x, sums(), 1)
		cpu.Run(&y, other, 1)
		cpu.Do(&y, api.Instr{Op: api.ODiv, A: 1, B: 7, C: 6})
	}
	if want := context(6, [8]uint32{15, 0, 1}, 0, 15); !same(x, want) {
		t.Errorf("%s, not %s", text(x), text(want))
	}
	if want := context(0, [8]uint32{3: 6, 7: 1}, 0, 6); !same(y, want) {
		t.Errorf("%s, not %s", text(y), text(want))
	}
}
