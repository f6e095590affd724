package isa_test

import (
	"math"
	"strings"
	"testing"

	"taffrail/api"
	"taffrail/isa"
)

const word = math.MaxUint32

// errors: those that a call may answer, for what a failing test tells.
var errors = map[api.Errno]string{api.OK: "OK", api.ErrRange: "ErrRange", api.ErrCode: "ErrCode"}

// perK: the cycles of a work are its K.
const perK = -1

// table: the chapter's, row by row; good is an instruction of the op that can be.
var table = []struct {
	op     int
	name   string
	has    string
	cycles int
	good   api.Instr
}{
	{1, "set", "A K", 1, api.Instr{Op: api.OSet, A: 7, K: word}},
	{2, "mov", "A B", 1, api.Instr{Op: api.OMov, A: 1, B: 2}},
	{3, "add", "A B C", 1, api.Instr{Op: api.OAdd, A: 1, B: 2, C: 3}},
	{4, "sub", "A B C", 1, api.Instr{Op: api.OSub, A: 1, B: 2, C: 3}},
	{5, "mul", "A B C", 3, api.Instr{Op: api.OMul, A: 1, B: 2, C: 3}},
	{6, "div", "A B C", 8, api.Instr{Op: api.ODiv, A: 1, B: 2, C: 3}},
	{7, "mod", "A B C", 8, api.Instr{Op: api.OMod, A: 1, B: 2, C: 3}},
	{8, "and", "A B C", 1, api.Instr{Op: api.OAnd, A: 1, B: 2, C: 3}},
	{9, "or", "A B C", 1, api.Instr{Op: api.OOr, A: 1, B: 2, C: 3}},
	{10, "xor", "A B C", 1, api.Instr{Op: api.OXor, A: 1, B: 2, C: 3}},
	{11, "shl", "A B C", 1, api.Instr{Op: api.OShl, A: 1, B: 2, C: 3}},
	{12, "shr", "A B C", 1, api.Instr{Op: api.OShr, A: 1, B: 2, C: 3}},
	{13, "lt", "A B C", 1, api.Instr{Op: api.OLt, A: 1, B: 2, C: 3}},
	{14, "eq", "A B C", 1, api.Instr{Op: api.OEq, A: 1, B: 2, C: 3}},
	{15, "load", "A B K", 2, api.Instr{Op: api.OLoad, A: 1, B: 2, K: 1000}},
	{16, "store", "A B K", 2, api.Instr{Op: api.OStore, A: 1, B: 2, K: 1000}},
	{17, "jmp", "K", 1, api.Instr{Op: api.OJmp, K: 5}},
	{18, "jz", "A K", 1, api.Instr{Op: api.OJz, A: 1, K: 5}},
	{19, "jnz", "A K", 1, api.Instr{Op: api.OJnz, A: 1, K: 5}},
	{20, "work", "K", perK, api.Instr{Op: api.OWork, K: 77}},
	{21, "in", "A K", 6, api.Instr{Op: api.OIn, A: 1, K: 15}},
	{22, "out", "A K", 6, api.Instr{Op: api.OOut, A: 1, K: 15}},
	{23, "mask", "A", 1, api.Instr{Op: api.OMask, A: 1}},
	{24, "self", "A", 1, api.Instr{Op: api.OSelf, A: 1}},
	{25, "now", "A", 1, api.Instr{Op: api.ONow, A: 1}},
	{26, "post", "A K", 12, api.Instr{Op: api.OPost, A: 1, K: 31}},
	{27, "send", "A B C D K", 12, api.Instr{Op: api.OSend, A: 1, B: 2, C: 3, D: api.MTimed, K: 31}},
	{28, "recv", "A B C D K", 12, api.Instr{Op: api.ORecv, A: 1, B: 2, C: 3, D: api.MTimed, K: 31}},
	{29, "arm", "A C K", 12, api.Instr{Op: api.OArm, A: 1, C: 3, K: 31}},
	{30, "disarm", "A K", 12, api.Instr{Op: api.ODisarm, A: 1, K: 31}},
	{31, "lock", "A K", 12, api.Instr{Op: api.OLock, A: 1, K: 31}},
	{32, "unlock", "A K", 12, api.Instr{Op: api.OUnlock, A: 1, K: 31}},
	{33, "wait", "A C D K", 12, api.Instr{Op: api.OWait, A: 1, C: 3, D: api.MTimed, K: 31}},
	{34, "sleep", "A C", 12, api.Instr{Op: api.OSleep, A: 1, C: 3}},
	{35, "yield", "", 12, api.Instr{Op: api.OYield}},
	{36, "next", "", 12, api.Instr{Op: api.ONext}},
	{37, "halt", "", 12, api.Instr{Op: api.OHalt}},
	{38, "iret", "", 4, api.Instr{Op: api.OIret}},
}

// wrongOps: some below 1 and above 38; by their lowest bits some of them are ops.
var wrongOps = []int{
	0, -1, -2, -17, -20, -38, math.MinInt, math.MinInt + 1, math.MinInt + 17, math.MinInt32,
	39, 40, 63, 64, 65, 127, 128, 255, 256, 257, 256 + 17, 1 << 16, 1<<16 + 3, 1 << 32, 1<<32 + 38, math.MaxInt32, math.MaxInt - 1, math.MaxInt,
}

// registers, modes and ks: the edges that the document names, and some that a cut to fewer bits would make small ones.
var (
	registers = []int{0, 1, 6, 7, 8, 9, 15, -1, -7, -8, 256, 1 << 32, 1<<32 + 1, math.MinInt, math.MaxInt}
	modes     = []int{0, 1, 2, 3, 4, -1, -2, 256, 257, 258, 1 << 32, 1<<32 + 1, 1<<32 + 2, math.MinInt, math.MaxInt}
	ks        = []uint32{0, 1, 2, 5, 14, 15, 16, 17, 31, 32, 255, 256, 257, 999, 1000, 1001, 1<<16 + 1, 1 << 31, word - 1, word}
)

// has: which fields the op of a row has, in the order of Uses.
func has(fields string) [5]bool {
	var l [5]bool
	for k, name := range []string{"A", "B", "C", "D", "K"} {
		l[k] = strings.Contains(fields, name)
	}
	return l
}

// form: what Form must answer, by the chapter's words.
func form(i api.Instr) api.Errno {
	if i.Op < 1 || i.Op > 38 {
		return api.ErrCode
	}
	h := has(table[i.Op-1].has)
	wrong := i.A < 0 || i.A > 7 || i.B < 0 || i.B > 7 || i.C < 0 || i.C > 7 || i.D < 0 || i.D > 2
	wrong = wrong || !h[0] && i.A != 0 || !h[1] && i.B != 0 || !h[2] && i.C != 0 || !h[3] && i.D != 0 || !h[4] && i.K != 0
	wrong = wrong || h[3] && i.D != 2 && i.C != 0
	wrong = wrong || table[i.Op-1].name == "work" && (i.K < 1 || i.K > 1000)
	wrong = wrong || (table[i.Op-1].name == "in" || table[i.Op-1].name == "out") && i.K > 15
	if wrong {
		return api.ErrRange
	}
	return api.OK
}

// check: what Check must answer, by the chapter's words.
func check(i api.Instr, size int, isr bool) api.Errno {
	if err := form(i); err != api.OK {
		return err
	}
	if !isr && i.Op == 38 || isr && i.Op >= 31 && i.Op <= 37 || isr && (i.Op == 27 || i.Op == 28) && i.D != 1 {
		return api.ErrCode
	}
	if i.Op >= 17 && i.Op <= 19 && (size < 0 || uint64(i.K) >= uint64(size)) {
		return api.ErrRange
	}
	return api.OK
}

// cost: what Cost must answer, by the chapter's words.
func cost(i api.Instr) int {
	if form(i) != api.OK {
		return 0
	}
	if c := table[i.Op-1].cycles; c != perK {
		return c
	}
	return int(i.K)
}

// isForm, isCheck and isCost: the call answers what is wanted.
func isForm(t *testing.T, i api.Instr, want api.Errno) {
	t.Helper()
	if err := isa.Form(i); err != want {
		t.Errorf("Form(%+v): %s, not %s", i, errors[err], errors[want])
	}
}

func isCheck(t *testing.T, i api.Instr, size int, isr bool, want api.Errno) {
	t.Helper()
	if err := isa.Check(i, size, isr); err != want {
		t.Errorf("Check(%+v, %d, %v): %s, not %s", i, size, isr, errors[err], errors[want])
	}
}

func isCost(t *testing.T, i api.Instr, want int) {
	t.Helper()
	if got := isa.Cost(i); got != want {
		t.Errorf("Cost(%+v): %d, not %d", i, got, want)
	}
}

func TestExamplesOfTheChapter(t *testing.T) {
	send := api.Instr{Op: 27, A: 1, B: 2, C: 3, D: 2, K: 0}
	isForm(t, send, api.OK)
	isCheck(t, send, 1, false, api.OK)
	isCheck(t, send, 1, true, api.ErrCode)
	isCost(t, send, 12)
	tried := send
	tried.D = 1
	isForm(t, tried, api.ErrRange)
	isCheck(t, tried, 1, false, api.ErrRange)
	isCheck(t, tried, 1, true, api.ErrRange)
	isCost(t, tried, 0)
}

// P10.1

func TestNameAndOpOfEach(t *testing.T) {
	if len(table) != 38 {
		t.Fatalf("%d rows", len(table))
	}
	for _, r := range table {
		if got := isa.Name(r.op); got != r.name {
			t.Errorf("Name(%d): %q, not %q", r.op, got, r.name)
		}
		if got := isa.Op(r.name); got != r.op {
			t.Errorf("Op(%q): %d, not %d", r.name, got, r.op)
		}
		if r.good.Op != r.op {
			t.Errorf("the number of %s is %d, not %d", r.name, r.good.Op, r.op)
		}
	}
}

func TestNameAndUsesWhereThereIsNone(t *testing.T) {
	for _, op := range wrongOps {
		if got := isa.Name(op); got != "" {
			t.Errorf("Name(%d): %q", op, got)
		}
		if a, b, c, d, k := isa.Uses(op); a || b || c || d || k {
			t.Errorf("Uses(%d): %v, %v, %v, %v, %v", op, a, b, c, d, k)
		}
	}
}

func TestOpOfNoName(t *testing.T) {
	wrong := []string{"", " ", "\x00", "nop", "int", "ret", "call", "jump", "38", "1", "s", "se", "ser", "sets", "addd", "unlocks", "halts", "ires", "set mov", strings.Repeat("set", 1000), "ſet"}
	for _, name := range wrong {
		if got := isa.Op(name); got != 0 {
			t.Errorf("Op(%q): %d", name, got)
		}
	}
}

func TestOpOfNamesThatDifferByALetter(t *testing.T) {
	names := map[string]int{}
	for _, r := range table {
		names[r.name] = r.op
	}
	for _, r := range table {
		for _, name := range near(r.name) {
			if got := isa.Op(name); got != names[name] {
				t.Errorf("Op(%q): %d, not %d", name, got, names[name])
			}
		}
	}
}

// near: a name in which one byte is another, is missing, or is there in addition; with blanks, and in capitals.
func near(name string) []string {
	l := []string{strings.ToUpper(name), strings.ToUpper(name[:1]) + name[1:], " " + name, name + " ", name + "\n", name + "\x00", "\t" + name}
	for k := range len(name) {
		l = append(l, name[:k]+name[k+1:])
		for b := range 256 {
			l = append(l, name[:k]+string([]byte{byte(b)})+name[k+1:], name[:k]+string([]byte{byte(b)})+name[k:], name+string([]byte{byte(b)}))
		}
	}
	return l
}

func TestUsesOfEach(t *testing.T) {
	for _, r := range table {
		a, b, c, d, k := isa.Uses(r.op)
		if got := [5]bool{a, b, c, d, k}; got != has(r.has) {
			t.Errorf("Uses of %s: %v, not %v", r.name, got, has(r.has))
		}
	}
}

// P10.2

func TestFormOfGoodOnes(t *testing.T) {
	for _, r := range table {
		isForm(t, r.good, api.OK)
	}
}

func TestFormOfNoOp(t *testing.T) {
	for _, op := range wrongOps {
		isForm(t, api.Instr{Op: op}, api.ErrCode)
		// That the op is none comes ahead of what else is wrong.
		isForm(t, api.Instr{Op: op, A: 8, B: -1, C: 9, D: 3, K: 1}, api.ErrCode)
	}
	isForm(t, api.Instr{}, api.ErrCode)
}

func TestFormOfEachRegister(t *testing.T) {
	for _, r := range table {
		h := has(r.has)
		for _, n := range registers {
			good := n >= 0 && n <= 7
			isForm(t, withField(r.good, 0, n), answer(n == 0 || h[0] && good))
			isForm(t, withField(r.good, 1, n), answer(n == 0 || h[1] && good))
			isForm(t, withField(r.good, 2, n), answer(n == 0 || h[2] && good))
		}
	}
}

// withField: the instruction, with another A, B, C or D.
func withField(i api.Instr, k, n int) api.Instr {
	*[]*int{&i.A, &i.B, &i.C, &i.D}[k] = n
	return i
}

// answer: OK, or ErrRange.
func answer(good bool) api.Errno {
	if good {
		return api.OK
	}
	return api.ErrRange
}

func TestFormOfEachMode(t *testing.T) {
	for _, r := range table {
		h := has(r.has)
		for _, d := range modes {
			i := withField(withField(r.good, 2, 0), 3, d)
			isForm(t, i, answer(d == 0 || h[3] && (d == 1 || d == 2)))
		}
	}
}

func TestFormOfCWhereThereIsAMode(t *testing.T) {
	for _, op := range []int{api.OSend, api.ORecv, api.OWait} {
		for c := range 8 {
			isForm(t, api.Instr{Op: op, C: c, D: api.MWait}, answer(c == 0))
			isForm(t, api.Instr{Op: op, C: c, D: api.MTry}, answer(c == 0))
			isForm(t, api.Instr{Op: op, C: c, D: api.MTimed}, api.OK)
		}
		isForm(t, api.Instr{Op: op, C: 8, D: api.MTimed}, api.ErrRange)
		isForm(t, api.Instr{Op: op, C: -1, D: api.MTimed}, api.ErrRange)
		isForm(t, api.Instr{Op: op, C: 1, D: 3}, api.ErrRange)
	}
	// Without a mode C is free.
	isForm(t, api.Instr{Op: api.OArm, C: 7}, api.OK)
	isForm(t, api.Instr{Op: api.OSleep, C: 7}, api.OK)
	isForm(t, api.Instr{Op: api.OAdd, C: 7}, api.OK)
}

func TestFormOfFieldsThatItHasNot(t *testing.T) {
	isForm(t, api.Instr{Op: api.OYield, A: 1}, api.ErrRange)
	isForm(t, api.Instr{Op: api.OJmp, A: 1}, api.ErrRange)
	isForm(t, api.Instr{Op: api.OWork, A: 1, K: 5}, api.ErrRange)
	isForm(t, api.Instr{Op: api.OSet, B: 1}, api.ErrRange)
	isForm(t, api.Instr{Op: api.OSleep, B: 1}, api.ErrRange)
	isForm(t, api.Instr{Op: api.OArm, B: 1}, api.ErrRange)
	isForm(t, api.Instr{Op: api.OWait, B: 1}, api.ErrRange)
	isForm(t, api.Instr{Op: api.OMov, C: 1}, api.ErrRange)
	isForm(t, api.Instr{Op: api.OLoad, C: 1}, api.ErrRange)
	isForm(t, api.Instr{Op: api.ODisarm, C: 1}, api.ErrRange)
	isForm(t, api.Instr{Op: api.OAdd, D: 1}, api.ErrRange)
	isForm(t, api.Instr{Op: api.OLock, D: 1}, api.ErrRange)
	isForm(t, api.Instr{Op: api.OSleep, D: 2}, api.ErrRange)
	isForm(t, api.Instr{Op: api.OMov, K: 1}, api.ErrRange)
	isForm(t, api.Instr{Op: api.OSleep, K: 1}, api.ErrRange)
	isForm(t, api.Instr{Op: api.ONow, K: word}, api.ErrRange)
	isForm(t, api.Instr{Op: api.OIret, K: 1}, api.ErrRange)
}

func TestFormOfEachK(t *testing.T) {
	for _, r := range table {
		h := has(r.has)
		for _, k := range ks {
			i := r.good
			i.K = k
			good := h[4] || k == 0
			switch r.op {
			case api.OWork:
				good = k >= 1 && k <= 1000
			case api.OIn, api.OOut:
				good = k < 16
			}
			isForm(t, i, answer(good))
		}
	}
}

func TestFormByTheWords(t *testing.T) {
	for op := -1; op <= 40; op++ {
		for _, a := range []int{0, 7, 8, -1} {
			for _, b := range []int{0, 7, 8, -1} {
				for _, c := range []int{0, 1, 7, 8, -1} {
					for _, d := range []int{0, 1, 2, 3, -1} {
						for _, k := range []uint32{0, 1, 15, 16, 1000, 1001, word} {
							i := api.Instr{Op: op, A: a, B: b, C: c, D: d, K: k}
							isForm(t, i, form(i))
							isCost(t, i, cost(i))
							for _, size := range []int{0, 1, 16, 1001} {
								isCheck(t, i, size, false, check(i, size, false))
								isCheck(t, i, size, true, check(i, size, true))
							}
						}
					}
				}
			}
		}
		if t.Failed() {
			return
		}
	}
}

// P10.3

func TestCheckWhereEachMayStand(t *testing.T) {
	for _, r := range table {
		want := api.OK
		if r.op == api.OIret {
			want = api.ErrCode
		}
		isCheck(t, r.good, 6, false, want)
	}
	for _, r := range table {
		i := r.good
		if r.op == api.OSend || r.op == api.ORecv {
			i.C, i.D = 0, api.MTry
		}
		want := api.OK
		if r.op >= api.OLock && r.op <= api.OHalt {
			want = api.ErrCode
		}
		isCheck(t, i, 6, true, want)
	}
}

func TestCheckOfModesInALine(t *testing.T) {
	for _, op := range []int{api.OSend, api.ORecv} {
		for d, want := range []api.Errno{api.ErrCode, api.OK, api.ErrCode, api.ErrRange} {
			i := api.Instr{Op: op, A: 1, B: 2, D: d, K: 3}
			isCheck(t, i, 1, true, want)
			isCheck(t, i, 1, false, answer(d <= 2))
		}
	}
	// A semaphore's wait may not stand there at all.
	for d := range 3 {
		isCheck(t, api.Instr{Op: api.OWait, A: 1, D: d}, 1, true, api.ErrCode)
		isCheck(t, api.Instr{Op: api.OWait, A: 1, D: d}, 1, false, api.OK)
	}
}

func TestCheckOfJumps(t *testing.T) {
	for _, op := range []int{api.OJmp, api.OJz, api.OJnz} {
		for _, size := range []int{1, 2, 3, 255, 256, 257, 1000, 1 << 31, word} {
			for _, isr := range []bool{false, true} {
				isCheck(t, api.Instr{Op: op}, size, isr, api.OK)
				isCheck(t, api.Instr{Op: op, K: uint32(size - 1)}, size, isr, api.OK)
				isCheck(t, api.Instr{Op: op, K: uint32(size)}, size, isr, api.ErrRange)
				isCheck(t, api.Instr{Op: op, K: word}, size, isr, api.ErrRange)
			}
		}
		for _, isr := range []bool{false, true} {
			for _, size := range []int{0, -1, -2, -256, math.MinInt32, math.MinInt} {
				isCheck(t, api.Instr{Op: op}, size, isr, api.ErrRange)
				isCheck(t, api.Instr{Op: op, K: 1}, size, isr, api.ErrRange)
				isCheck(t, api.Instr{Op: op, K: word}, size, isr, api.ErrRange)
			}
			isCheck(t, api.Instr{Op: op, K: word}, math.MaxInt, isr, api.OK)
			isCheck(t, api.Instr{Op: op, K: word}, word+1, isr, api.OK)
		}
	}
}

func TestCheckAsksTheSizeOfJumpsAlone(t *testing.T) {
	for _, r := range table {
		if r.op >= api.OJmp && r.op <= api.OJnz {
			continue
		}
		for _, size := range []int{math.MinInt, -1, 0, 1, 256, math.MaxInt} {
			isCheck(t, r.good, size, false, check(r.good, size, false))
			isCheck(t, r.good, size, true, check(r.good, size, true))
		}
	}
	isCheck(t, api.Instr{Op: api.OSet, K: 5}, 3, false, api.OK)
	isCheck(t, api.Instr{Op: api.OLoad, K: 5}, 0, true, api.OK)
	isCheck(t, api.Instr{Op: api.OWork, K: 5}, 3, false, api.OK)
}

func TestCheckTellsFormAheadOfThePlace(t *testing.T) {
	isCheck(t, api.Instr{Op: api.OLock, A: 8}, 1, true, api.ErrRange)
	isCheck(t, api.Instr{Op: api.OHalt, K: 1}, 1, true, api.ErrRange)
	isCheck(t, api.Instr{Op: api.OIret, A: 1}, 1, false, api.ErrRange)
	isCheck(t, api.Instr{Op: api.OSend, B: 8}, 1, true, api.ErrRange)
	isCheck(t, api.Instr{Op: api.OSend, C: 3, D: api.MWait}, 1, true, api.ErrRange)
	isCheck(t, api.Instr{Op: api.OJmp, A: 1, K: 9}, 1, true, api.ErrRange)
	for _, op := range wrongOps {
		isCheck(t, api.Instr{Op: op, A: 9}, 0, true, api.ErrCode)
		isCheck(t, api.Instr{Op: op}, 256, false, api.ErrCode)
	}
}

func TestCostOfEach(t *testing.T) {
	for _, r := range table {
		want := r.cycles
		if r.op == api.OWork {
			want = 77
		}
		isCost(t, r.good, want)
	}
	for d := range 3 {
		isCost(t, api.Instr{Op: api.OSend, D: d}, 12)
		isCost(t, api.Instr{Op: api.OWait, D: d}, 12)
	}
}

func TestCostOfAWork(t *testing.T) {
	for k := uint32(0); k <= 1100; k++ {
		want := int(k)
		if k > 1000 {
			want = 0
		}
		isCost(t, api.Instr{Op: api.OWork, K: k}, want)
	}
	isCost(t, api.Instr{Op: api.OWork, K: word}, 0)
	isCost(t, api.Instr{Op: api.OWork, K: 5, B: 1}, 0)
}

func TestCostOfWhatFormRefuses(t *testing.T) {
	for _, op := range wrongOps {
		isCost(t, api.Instr{Op: op}, 0)
		isCost(t, api.Instr{Op: op, K: 5}, 0)
	}
	isCost(t, api.Instr{Op: api.OAdd, A: 8}, 0)
	isCost(t, api.Instr{Op: api.OMul, C: -1}, 0)
	isCost(t, api.Instr{Op: api.OIn, K: 16}, 0)
	isCost(t, api.Instr{Op: api.OIret, D: 1}, 0)
	// Where it may not stand, and whither it jumps, the cost doesn't ask.
	isCost(t, api.Instr{Op: api.OIret}, 4)
	isCost(t, api.Instr{Op: api.OJmp, K: word}, 1)
}
