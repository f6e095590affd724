package listing_test

import (
	"fmt"
	"math"
	"math/big"
	"regexp"
	"slices"
	"strings"
	"testing"

	"taffrail/api"
	"taffrail/isa"
	"taffrail/listing"
)

const word = math.MaxUint32

// errors: those that a call may answer, for what a failing test tells.
var errors = map[api.Errno]string{api.OK: "OK", api.ErrForm: "ErrForm", api.ErrLong: "ErrLong", api.ErrRange: "ErrRange", api.ErrCode: "ErrCode"}

// table: what each instruction has, as isa's chapter tells it; its place is its number less 1.
var table = []struct{ name, has string }{
	{"set", "A K"}, {"mov", "A B"}, {"add", "A B C"}, {"sub", "A B C"}, {"mul", "A B C"}, {"div", "A B C"}, {"mod", "A B C"},
	{"and", "A B C"}, {"or", "A B C"}, {"xor", "A B C"}, {"shl", "A B C"}, {"shr", "A B C"}, {"lt", "A B C"}, {"eq", "A B C"},
	{"load", "A B K"}, {"store", "A B K"}, {"jmp", "K"}, {"jz", "A K"}, {"jnz", "A K"}, {"work", "K"}, {"in", "A K"}, {"out", "A K"},
	{"mask", "A"}, {"self", "A"}, {"now", "A"}, {"post", "A K"}, {"send", "A B C D K"}, {"recv", "A B C D K"}, {"arm", "A C K"},
	{"disarm", "A K"}, {"lock", "A K"}, {"unlock", "A K"}, {"wait", "A C D K"}, {"sleep", "A C"},
	{"yield", ""}, {"next", ""}, {"halt", ""}, {"iret", ""},
}

// right: each instruction, with each mode that it can have, and its line.
var right = []struct {
	i    api.Instr
	line string
}{
	{api.Instr{Op: 1, A: 7, K: word}, "set r7 4294967295"},
	{api.Instr{Op: 2, A: 1, B: 2}, "mov r1 r2"},
	{api.Instr{Op: 3, A: 1, B: 2, C: 3}, "add r1 r2 r3"},
	{api.Instr{Op: 4, A: 4, B: 5, C: 6}, "sub r4 r5 r6"},
	{api.Instr{Op: 5, A: 7, B: 0, C: 1}, "mul r7 r0 r1"},
	{api.Instr{Op: 6, A: 2, B: 3, C: 4}, "div r2 r3 r4"},
	{api.Instr{Op: 7, A: 5, B: 6, C: 7}, "mod r5 r6 r7"},
	{api.Instr{Op: 8, A: 0, B: 1, C: 2}, "and r0 r1 r2"},
	{api.Instr{Op: 9, A: 3, B: 4, C: 5}, "or r3 r4 r5"},
	{api.Instr{Op: 10, A: 6, B: 7, C: 0}, "xor r6 r7 r0"},
	{api.Instr{Op: 11, A: 1, B: 3, C: 5}, "shl r1 r3 r5"},
	{api.Instr{Op: 12, A: 7, B: 2, C: 4}, "shr r7 r2 r4"},
	{api.Instr{Op: 13, A: 6, B: 0, C: 1}, "lt r6 r0 r1"},
	{api.Instr{Op: 14, A: 3, B: 3, C: 3}, "eq r3 r3 r3"},
	{api.Instr{Op: 15, A: 1, B: 2, K: 10}, "load r1 r2 10"},
	{api.Instr{Op: 16, A: 3, B: 4, K: 255}, "store r3 r4 255"},
	{api.Instr{Op: 17, K: 0}, "jmp 0"},
	{api.Instr{Op: 18, A: 5, K: 6}, "jz r5 6"},
	{api.Instr{Op: 19, A: 6, K: 5}, "jnz r6 5"},
	{api.Instr{Op: 20, K: 1000}, "work 1000"},
	{api.Instr{Op: 21, A: 1, K: 15}, "in r1 15"},
	{api.Instr{Op: 22, A: 2, K: 0}, "out r2 0"},
	{api.Instr{Op: 23, A: 3}, "mask r3"},
	{api.Instr{Op: 24, A: 4}, "self r4"},
	{api.Instr{Op: 25, A: 0}, "now r0"},
	{api.Instr{Op: 26, A: 5, K: 31}, "post r5 31"},
	{api.Instr{Op: 27, A: 1, B: 2, D: api.MWait, K: 3}, "send r1 r2 wait 3"},
	{api.Instr{Op: 27, A: 4, B: 5, D: api.MTry, K: 6}, "send r4 r5 try 6"},
	{api.Instr{Op: 27, A: 1, B: 2, C: 3, D: api.MTimed, K: 4}, "send r1 r2 timed r3 4"},
	{api.Instr{Op: 27, A: 1, B: 2, C: 0, D: api.MTimed, K: 4}, "send r1 r2 timed r0 4"},
	{api.Instr{Op: 28, A: 3, B: 2, D: api.MWait, K: 1}, "recv r3 r2 wait 1"},
	{api.Instr{Op: 28, A: 7, B: 0, D: api.MTry, K: 31}, "recv r7 r0 try 31"},
	{api.Instr{Op: 28, A: 5, B: 6, C: 7, D: api.MTimed, K: 8}, "recv r5 r6 timed r7 8"},
	{api.Instr{Op: 29, A: 1, C: 2, K: 3}, "arm r1 r2 3"},
	{api.Instr{Op: 30, A: 4, K: 5}, "disarm r4 5"},
	{api.Instr{Op: 31, A: 0, K: 0}, "lock r0 0"},
	{api.Instr{Op: 32, A: 6, K: 7}, "unlock r6 7"},
	{api.Instr{Op: 33, A: 1, D: api.MWait, K: 2}, "wait r1 wait 2"},
	{api.Instr{Op: 33, A: 3, D: api.MTry, K: 4}, "wait r3 try 4"},
	{api.Instr{Op: 33, A: 5, C: 6, D: api.MTimed, K: 7}, "wait r5 timed r6 7"},
	{api.Instr{Op: 34, A: 0, C: 1}, "sleep r0 r1"},
	{api.Instr{Op: 35}, "yield"},
	{api.Instr{Op: 36}, "next"},
	{api.Instr{Op: 37}, "halt"},
	{api.Instr{Op: 38}, "iret"},
}

// refused: some that Form refuses, and its error.
var refused = []struct {
	i   api.Instr
	err api.Errno
}{
	{api.Instr{}, api.ErrCode},
	{api.Instr{Op: -1}, api.ErrCode},
	{api.Instr{Op: 39}, api.ErrCode},
	{api.Instr{Op: math.MinInt, A: 8}, api.ErrCode},
	{api.Instr{Op: math.MaxInt, K: 1}, api.ErrCode},
	{api.Instr{Op: 256 + api.OHalt}, api.ErrCode},
	{api.Instr{Op: api.OSet, A: 8}, api.ErrRange},
	{api.Instr{Op: api.OSet, A: -1}, api.ErrRange},
	{api.Instr{Op: api.OMov, B: 8}, api.ErrRange},
	{api.Instr{Op: api.OAdd, C: math.MaxInt}, api.ErrRange},
	{api.Instr{Op: api.OAdd, D: 1}, api.ErrRange},
	{api.Instr{Op: api.OHalt, A: 1}, api.ErrRange},
	{api.Instr{Op: api.OHalt, K: 1}, api.ErrRange},
	{api.Instr{Op: api.OSleep, B: 1}, api.ErrRange},
	{api.Instr{Op: api.OSend, C: 1, D: api.MWait}, api.ErrRange},
	{api.Instr{Op: api.OSend, C: 1, D: api.MTry}, api.ErrRange},
	{api.Instr{Op: api.OWait, D: 3}, api.ErrRange},
	{api.Instr{Op: api.OWait, D: -1}, api.ErrRange},
	{api.Instr{Op: api.ORecv, D: math.MinInt}, api.ErrRange},
	{api.Instr{Op: api.OWork, K: 0}, api.ErrRange},
	{api.Instr{Op: api.OWork, K: 1001}, api.ErrRange},
	{api.Instr{Op: api.OIn, K: 16}, api.ErrRange},
	{api.Instr{Op: api.OOut, K: word}, api.ErrRange},
}

// spelling: the line of an instruction that can be, by the chapter's words.
func spelling(i api.Instr) string {
	r := table[i.Op-1]
	behind := fmt.Sprintf("%s %d", []string{"wait", "try", fmt.Sprintf("timed r%d", i.C)}[i.D], i.K)
	switch r.has {
	case "":
		return r.name
	case "A":
		return fmt.Sprintf("%s r%d", r.name, i.A)
	case "K":
		return fmt.Sprintf("%s %d", r.name, i.K)
	case "A B":
		return fmt.Sprintf("%s r%d r%d", r.name, i.A, i.B)
	case "A C":
		return fmt.Sprintf("%s r%d r%d", r.name, i.A, i.C)
	case "A K":
		return fmt.Sprintf("%s r%d %d", r.name, i.A, i.K)
	case "A B C":
		return fmt.Sprintf("%s r%d r%d r%d", r.name, i.A, i.B, i.C)
	case "A B K":
		return fmt.Sprintf("%s r%d r%d %d", r.name, i.A, i.B, i.K)
	case "A C K":
		return fmt.Sprintf("%s r%d r%d %d", r.name, i.A, i.C, i.K)
	case "A C D K":
		return fmt.Sprintf("%s r%d %s", r.name, i.A, behind)
	}
	return fmt.Sprintf("%s r%d r%d %s", r.name, i.A, i.B, behind)
}

// shape is which lines an instruction has.
type shape struct {
	op    int
	lines *regexp.Regexp
}

// shapes: those of each instruction, by its name.
func shapes() map[string]shape {
	m := map[string]shape{}
	for k, r := range table {
		p := `\A` + r.name
		if strings.Contains(r.has, "A") {
			p += ` r(?P<A>[0-7])`
		}
		if strings.Contains(r.has, "B") {
			p += ` r(?P<B>[0-7])`
		}
		if strings.Contains(r.has, "D") {
			p += ` (?P<D>wait|try|timed r(?P<C>[0-7]))`
		} else if strings.Contains(r.has, "C") {
			p += ` r(?P<C>[0-7])`
		}
		if strings.Contains(r.has, "K") {
			p += ` (?P<K>0|[1-9][0-9]*)`
		}
		m[r.name] = shape{k + 1, regexp.MustCompile(p + `\z`)}
	}
	return m
}

// all: made once, for the tests that ask for many lines.
var all = shapes()

// parsed: what Parse must answer, by the chapter's words.
func parsed(line string) (api.Instr, api.Errno) {
	name, _, _ := strings.Cut(line, " ")
	s, ok := all[name]
	if !ok {
		return api.Instr{}, api.ErrForm
	}
	m := s.lines.FindStringSubmatch(line)
	if m == nil {
		return api.Instr{}, api.ErrForm
	}
	i := api.Instr{Op: s.op}
	for k, field := range s.lines.SubexpNames() {
		switch field {
		case "A":
			i.A = int(value(m[k]))
		case "B":
			i.B = int(value(m[k]))
		case "C":
			i.C = int(value(m[k]))
		case "D":
			mode, _, _ := strings.Cut(m[k], " ")
			i.D = map[string]int{"wait": 0, "try": 1, "timed": 2}[mode]
		case "K":
			if value(m[k]) > word {
				return api.Instr{}, api.ErrForm
			}
			i.K = uint32(value(m[k]))
		}
	}
	if err := isa.Form(i); err != api.OK {
		return api.Instr{}, err
	}
	return i, api.OK
}

// value: what decimal digits tell, 0 without any, and 2^32 where it is more than that.
func value(digits string) uint64 {
	n, _ := new(big.Int).SetString("0"+digits, 10)
	if n.Cmp(big.NewInt(word)) > 0 {
		return word + 1
	}
	return n.Uint64()
}

// isLine, isParse, isPrint and isRead: the call answers what is wanted.
func isLine(t *testing.T, i api.Instr, want string, err api.Errno) {
	t.Helper()
	if got, e := listing.Line(i); got != want || e != err {
		t.Errorf("Line(%+v): %q, %s, not %q, %s", i, got, errors[e], want, errors[err])
	}
}

func isParse(t *testing.T, line string, want api.Instr, err api.Errno) {
	t.Helper()
	if got, e := listing.Parse(line); got != want || e != err {
		t.Errorf("Parse(%.80q): %+v, %s, not %+v, %s", line, got, errors[e], want, errors[err])
	}
}

func isPrint(t *testing.T, code []api.Instr, want string, err api.Errno) {
	t.Helper()
	if got, e := listing.Print(code); got != want || e != err {
		t.Errorf("Print of %d: %.80q, %s, not %.80q, %s", len(code), got, errors[e], want, errors[err])
	}
}

func isRead(t *testing.T, text string, want []api.Instr, at int, err api.Errno) {
	t.Helper()
	if got, k, e := listing.Read(text); !slices.Equal(got, want) || k != at || e != err {
		t.Errorf("Read(%.80q): %d instructions, %d, %s, not %d, %d, %s", text, len(got), k, errors[e], len(want), at, errors[err])
	}
}

// noLine: the line has not the form of one.
func noLine(t *testing.T, line string) {
	t.Helper()
	isParse(t, line, api.Instr{}, api.ErrForm)
}

func TestExamplesOfTheChapter(t *testing.T) {
	send := api.Instr{Op: 27, A: 1, B: 2, C: 3, D: 2, K: 0}
	isLine(t, send, "send r1 r2 timed r3 0", api.OK)
	isParse(t, "send r1 r2 timed r3 0", send, api.OK)
	sleep := api.Instr{Op: 34, A: 0, C: 1}
	isLine(t, sleep, "sleep r0 r1", api.OK)
	isParse(t, "sleep r0 r1", sleep, api.OK)
	isRead(t, "work 5\nhalt", nil, 2, api.ErrForm)
	isRead(t, "work 5\nhalt\n", []api.Instr{{Op: api.OWork, K: 5}, {Op: api.OHalt}}, 0, api.OK)
}

// P11.1

func TestLineAndParseOfEach(t *testing.T) {
	seen := map[int]int{}
	for _, r := range right {
		isLine(t, r.i, r.line, api.OK)
		isParse(t, r.line, r.i, api.OK)
		seen[r.i.Op]++
	}
	if len(seen) != 38 || len(table) != 38 {
		t.Errorf("%d instructions of %d rows", len(seen), len(table))
	}
}

func TestLineOfWhatFormRefuses(t *testing.T) {
	for _, r := range refused {
		isLine(t, r.i, "", r.err)
	}
}

// Each field at its edges: the line or Form's error; and of the line the instruction again.
func TestLineByTheWords(t *testing.T) {
	for op := -1; op <= 40; op++ {
		for _, a := range []int{0, 1, 7, 8, -1} {
			for _, b := range []int{0, 1, 7, 8, -1} {
				for _, c := range []int{0, 1, 7, 8, -1} {
					for _, d := range []int{0, 1, 2, 3, -1} {
						for _, k := range []uint32{0, 1, 10, 15, 16, 1000, 1001, 1 << 31, word} {
							checkLine(t, api.Instr{Op: op, A: a, B: b, C: c, D: d, K: k})
						}
					}
				}
			}
		}
		if t.Failed() {
			return
		}
	}
}

// checkLine: Line says Form's error, or the line, which is parsed as the instruction that it was.
func checkLine(t *testing.T, i api.Instr) {
	t.Helper()
	if err := isa.Form(i); err != api.OK {
		isLine(t, i, "", err)
		return
	}
	line := spelling(i)
	isLine(t, i, line, api.OK)
	isParse(t, line, i, api.OK)
}

func TestParseOfNames(t *testing.T) {
	for _, name := range []string{
		"", " ", "nop", "call", "1", "37", "r0", "hal", "halts", "halt\x00", "Halt", "HALT", "\thalt", "halt\t", "halt\n", "halt\r", "\nhalt", "\n",
		"halt;", "halt,", "h alt", "haltyield", "halt\nyield", "\xff", "\u00a0halt", "timed", "try", strings.Repeat("halt", 1000),
	} {
		noLine(t, name)
		noLine(t, name+" r0")
		noLine(t, name+" r0 r1")
		noLine(t, name+" r0 5")
		noLine(t, name+" 5")
	}
	// A wait is a name, and a mode.
	isParse(t, "wait r0 wait 0", api.Instr{Op: api.OWait}, api.OK)
	noLine(t, "wait wait r0 0")
}

func TestParseOfBlanks(t *testing.T) {
	for _, r := range right {
		noLine(t, " "+r.line)
		noLine(t, r.line+" ")
		noLine(t, "  "+r.line)
		noLine(t, r.line+"  ")
		noLine(t, r.line+"\n")
		noLine(t, r.line+"\r")
		noLine(t, r.line+"\t")
		for k := range r.line {
			if r.line[k] != ' ' {
				continue
			}
			for _, other := range []string{"", "  ", "   ", "\t", "\n", "\x00", "\u00a0", ", ", ",", " \t", " ,"} {
				noLine(t, r.line[:k]+other+r.line[k+1:])
			}
		}
	}
	for _, line := range []string{"", " ", "  ", "\t", "\r", strings.Repeat(" ", 1<<16)} {
		noLine(t, line)
	}
}

func TestParseOfRegisters(t *testing.T) {
	places := []struct {
		ahead, behind string
		set           func(n int) api.Instr
	}{
		{"mask ", "", func(n int) api.Instr { return api.Instr{Op: api.OMask, A: n} }},
		{"add ", " r1 r2", func(n int) api.Instr { return api.Instr{Op: api.OAdd, A: n, B: 1, C: 2} }},
		{"add r1 ", " r2", func(n int) api.Instr { return api.Instr{Op: api.OAdd, A: 1, B: n, C: 2} }},
		{"add r1 r2 ", "", func(n int) api.Instr { return api.Instr{Op: api.OAdd, A: 1, B: 2, C: n} }},
		{"sleep r1 ", "", func(n int) api.Instr { return api.Instr{Op: api.OSleep, A: 1, C: n} }},
		{"arm r1 ", " 5", func(n int) api.Instr { return api.Instr{Op: api.OArm, A: 1, C: n, K: 5} }},
		{"send ", " r1 try 5", func(n int) api.Instr { return api.Instr{Op: api.OSend, A: n, B: 1, D: api.MTry, K: 5} }},
		{"recv r1 ", " wait 5", func(n int) api.Instr { return api.Instr{Op: api.ORecv, A: 1, B: n, K: 5} }},
		{"send r1 r2 timed ", " 5", func(n int) api.Instr { return api.Instr{Op: api.OSend, A: 1, B: 2, C: n, D: api.MTimed, K: 5} }},
		{"wait r1 timed ", " 5", func(n int) api.Instr { return api.Instr{Op: api.OWait, A: 1, C: n, D: api.MTimed, K: 5} }},
	}
	wrong := []string{
		"", "r8", "r9", "r07", "r00", "r10", "r70", "R1", "R0", "r", "r-1", "r-0", "r+1", "rr", "r1r", "1", "0", "1r", "rA", "ra", "r/", "r:", "r?", "r\x00", "r\xb1",
		"q1", "s1", "2r", "r1\n", "r1,", "r_1", "wait", "r\u0661", "\uff521", "r0x1", "r256", "r4294967296", "r18446744073709551616", "r" + strings.Repeat("0", 1000) + "1",
	}
	for _, p := range places {
		for n := range 8 {
			isParse(t, p.ahead+"r"+string(rune('0'+n))+p.behind, p.set(n), api.OK)
		}
		for _, r := range wrong {
			noLine(t, p.ahead+r+p.behind)
		}
		for b := range 256 {
			if b < '0' || b > '7' {
				noLine(t, p.ahead+"r"+string([]byte{byte(b)})+p.behind)
			}
			if b != 'r' {
				noLine(t, p.ahead+string([]byte{byte(b)})+"1"+p.behind)
			}
		}
	}
}

func TestParseOfModes(t *testing.T) {
	for _, r := range []struct {
		line string
		i    api.Instr
	}{{"send r1 r2 ", api.Instr{Op: api.OSend, A: 1, B: 2, K: 4}}, {"recv r1 r2 ", api.Instr{Op: api.ORecv, A: 1, B: 2, K: 4}}, {"wait r1 ", api.Instr{Op: api.OWait, A: 1, K: 4}}} {
		isParse(t, r.line+"wait 4", r.i, api.OK)
		r.i.D = api.MTry
		isParse(t, r.line+"try 4", r.i, api.OK)
		r.i.D = api.MTimed
		isParse(t, r.line+"timed r0 4", r.i, api.OK)
		r.i.C = 3
		isParse(t, r.line+"timed r3 4", r.i, api.OK)
		// C stands behind timed, and behind no other one.
		noLine(t, r.line+"wait r3 4")
		noLine(t, r.line+"try r3 4")
		noLine(t, r.line+"wait r0 4")
		noLine(t, r.line+"try r0 4")
		noLine(t, r.line+"r3 timed 4")
		noLine(t, r.line+"timed 4")
		noLine(t, r.line+"timed 4 r3")
		noLine(t, r.line+"timed r3 r3 4")
		noLine(t, r.line+"timed")
		noLine(t, r.line+"timed r3")
		for _, mode := range []string{"", "Wait", "WAIT", "Try", "Timed", "wai", "waits", "tr", "tryy", "time", "timedd", "0", "1", "2", "3", "r0", "none", "halt", "wait,", "try\n", "mwait", "\xff"} {
			noLine(t, r.line+mode+" 4")
			noLine(t, r.line+mode+" r3 4")
		}
	}
	// Where there is no mode, none stands.
	for _, line := range []string{"lock r0 wait 0", "lock r0 try 0", "sleep timed r0 r1", "sleep r0 timed r1", "arm r0 timed r1 0", "post r0 wait 0", "halt wait", "add r0 r1 try r2"} {
		noLine(t, line)
	}
}

func TestParseOfNumbers(t *testing.T) {
	wrong := []string{
		"", "00", "01", "007", "000", "00000000001", "04294967295", "+0", "+1", "-0", "-1", "1a", "a1", "a", "f", "x", "0x1", "0X1", "0b1", "0o1", "1_0", "1e1", "1.0", ".1", "1.",
		"1,", "1\n", "\n1", "\t1", "1\t", "1\x00", "\x001", "\xb1", "1\xb2", "/", ":", "1/", "1:", "O", "r1", "wait", "\u0661", "\uff11",
		"4294967296", "4294967297", "4294967301", "4294967305", "5294967295", "9999999999", "10000000000", "42949672950", "8589934592", "8589934593",
		"18446744073709551615", "18446744073709551616", "18446744073709551617", "340282366920938463463374607431768211456", strings.Repeat("9", 1000), strings.Repeat("0", 1000) + "1",
	}
	for _, r := range []struct {
		ahead string
		i     api.Instr
	}{
		{"set r7 ", api.Instr{Op: api.OSet, A: 7}},
		{"jmp ", api.Instr{Op: api.OJmp}},
		{"load r1 r2 ", api.Instr{Op: api.OLoad, A: 1, B: 2}},
		{"arm r1 r2 ", api.Instr{Op: api.OArm, A: 1, C: 2}},
		{"send r1 r2 try ", api.Instr{Op: api.OSend, A: 1, B: 2, D: api.MTry}},
		{"recv r1 r2 timed r3 ", api.Instr{Op: api.ORecv, A: 1, B: 2, C: 3, D: api.MTimed}},
		{"wait r1 wait ", api.Instr{Op: api.OWait, A: 1}},
	} {
		for _, k := range []uint32{0, 1, 7, 9, 10, 11, 99, 100, 101, 255, 256, 257, 1001, 65536, 1 << 31, 4294967290, 4294967294, 4294967295} {
			r.i.K = k
			isParse(t, r.ahead+fmt.Sprint(k), r.i, api.OK)
		}
		for _, number := range wrong {
			noLine(t, r.ahead+number)
		}
		for b := range 256 {
			if b < '0' || b > '9' {
				noLine(t, r.ahead+string([]byte{byte(b)}))
				noLine(t, r.ahead+"1"+string([]byte{byte(b)}))
				noLine(t, r.ahead+"1"+string([]byte{byte(b)})+"1")
			}
		}
	}
}

// Each line with its last words missing, and with words in addition.
func TestParseOfTooFewAndTooMany(t *testing.T) {
	for _, r := range right {
		words := strings.Split(r.line, " ")
		for k := range len(words) {
			noLine(t, strings.Join(words[:k], " "))
			noLine(t, strings.Join(words[:k], " ")+" ")
			noLine(t, strings.Join(slices.Delete(slices.Clone(words), k, k+1), " "))
		}
		for _, more := range []string{"", "0", "5", "r0", "r1", "wait", "try", "timed", "timed r0", "halt", "x", r.line} {
			noLine(t, r.line+" "+more)
			noLine(t, r.line+" "+more+" "+more)
		}
		noLine(t, r.line+strings.Repeat(" 0", 1<<10))
	}
}

func TestParseTellsFormsError(t *testing.T) {
	for _, line := range []string{"work 0", "work 1001", "work 4294967295", "in r0 16", "in r7 4294967295", "out r0 16", "out r3 17"} {
		isParse(t, line, api.Instr{}, api.ErrRange)
	}
	isParse(t, "work 1", api.Instr{Op: api.OWork, K: 1}, api.OK)
	isParse(t, "work 1000", api.Instr{Op: api.OWork, K: 1000}, api.OK)
	isParse(t, "in r0 15", api.Instr{Op: api.OIn, K: 15}, api.OK)
	isParse(t, "out r0 15", api.Instr{Op: api.OOut, K: 15}, api.OK)
	// All words come ahead of Form.
	for _, line := range []string{"work 1001 ", " work 1001", "work 01001", "work 4294967296", "work 1001 0", "work 0 r1", "work 00", "in r8 16", "in r0 16 0", "out r0 016", "out 16", "in r0 r1 16"} {
		noLine(t, line)
	}
	// Form asks neither where it stands nor whither it jumps.
	isParse(t, "jmp 4294967295", api.Instr{Op: api.OJmp, K: word}, api.OK)
	isParse(t, "iret", api.Instr{Op: api.OIret}, api.OK)
	isParse(t, "lock r0 4294967295", api.Instr{Op: api.OLock, K: word}, api.OK)
}

// One byte of each line altered, left out or put in.
func TestParseOfAlteredLines(t *testing.T) {
	for _, r := range right {
		for k := range len(r.line) + 1 {
			for b := range 256 {
				put := string([]byte{byte(b)})
				checkParse(t, r.line[:k]+put+r.line[k:])
				if k < len(r.line) {
					checkParse(t, r.line[:k]+put+r.line[k+1:])
				}
			}
			if k < len(r.line) {
				checkParse(t, r.line[:k]+r.line[k+1:])
			}
			checkParse(t, r.line[:k])
			checkParse(t, r.line[k:])
		}
	}
}

// checkParse: Parse says what it must by the chapter's words; and what is parsed has that line alone.
func checkParse(t *testing.T, line string) {
	t.Helper()
	i, err := parsed(line)
	isParse(t, line, i, err)
	if err == api.OK {
		isLine(t, i, line, api.OK)
	}
}

// All lines of up to five of these words behind some names.
func TestParseOfAllShortLines(t *testing.T) {
	words := []string{"", "r1", "r8", "wait", "try", "timed", "5", "05"}
	for _, name := range []string{"send", "wait", "add", "arm", "load", "work", "halt", "x", ""} {
		lines := []string{name}
		for range 5 {
			var longer []string
			for _, line := range lines {
				checkParse(t, line)
				for _, w := range words {
					longer = append(longer, line+" "+w)
				}
			}
			lines = longer
		}
		for _, line := range lines {
			checkParse(t, line)
		}
	}
}

// P11.2

// halts: the text of n halts, and the program.
func halts(n int) (string, []api.Instr) {
	return strings.Repeat("halt\n", n), slices.Repeat([]api.Instr{{Op: api.OHalt}}, n)
}

func TestPrintOfEachCount(t *testing.T) {
	isPrint(t, nil, "", api.OK)
	isPrint(t, []api.Instr{}, "", api.OK)
	for n := range 257 {
		text, code := halts(n)
		isPrint(t, code, text, api.OK)
	}
	for _, n := range []int{257, 258, 300, 512, 513, 1 << 16} {
		_, code := halts(n)
		isPrint(t, code, "", api.ErrLong)
	}
}

func TestPrintOfWhatFormRefuses(t *testing.T) {
	for _, r := range refused {
		isPrint(t, []api.Instr{r.i}, "", r.err)
		for _, n := range []int{2, 3, 255, 256, 257} {
			for _, k := range []int{0, n / 2, n - 1} {
				_, code := halts(n)
				code[k] = r.i
				// Too many are told ahead of Form's error.
				want := r.err
				if n > 256 {
					want = api.ErrLong
				}
				isPrint(t, code, "", want)
			}
		}
	}
}

func TestPrintTellsTheFirst(t *testing.T) {
	none, far, halt := api.Instr{}, api.Instr{Op: api.OWork}, api.Instr{Op: api.OHalt}
	isPrint(t, []api.Instr{none, far}, "", api.ErrCode)
	isPrint(t, []api.Instr{far, none}, "", api.ErrRange)
	isPrint(t, []api.Instr{halt, none, halt, far}, "", api.ErrCode)
	isPrint(t, []api.Instr{halt, far, halt, none, halt}, "", api.ErrRange)
}

func TestPrintOfAllInOne(t *testing.T) {
	var code []api.Instr
	var text string
	for _, r := range right {
		code = append(code, r.i)
		text += r.line + "\n"
	}
	isPrint(t, code, text, api.OK)
	isRead(t, text, code, 0, api.OK)
}

func TestReadOfEachCount(t *testing.T) {
	isRead(t, "", nil, 0, api.OK)
	for n := range 257 {
		text, code := halts(n)
		isRead(t, text, code, 0, api.OK)
	}
	for _, n := range []int{257, 258, 300, 512, 513, 1 << 16} {
		text, _ := halts(n)
		isRead(t, text, nil, 257, api.ErrLong)
	}
}

func TestReadOfALineWithoutItsEnd(t *testing.T) {
	for n := range 256 {
		text, _ := halts(n)
		for _, last := range []string{"halt", "x", " ", "\r", "work 0", "halt\r", "halt\x00"} {
			isRead(t, text+last, nil, n+1, api.ErrForm)
		}
	}
	// What is behind 256 lines is the 257th, whatever it is.
	text, _ := halts(256)
	for _, last := range []string{"halt", "halt\n", "x", "x\n", "\n", " ", " \n", "work 0", "work 0\n", "\n\n", "\x00"} {
		isRead(t, text+last, nil, 257, api.ErrLong)
	}
}

func TestReadOfEmptyLines(t *testing.T) {
	isRead(t, "\n", nil, 1, api.ErrForm)
	isRead(t, "\n\n", nil, 1, api.ErrForm)
	isRead(t, "\nhalt\n", nil, 1, api.ErrForm)
	isRead(t, "halt\n\n", nil, 2, api.ErrForm)
	isRead(t, "halt\n\nhalt\n", nil, 2, api.ErrForm)
	isRead(t, "halt\nhalt\n\n\n", nil, 3, api.ErrForm)
	isRead(t, strings.Repeat("\n", 1<<16), nil, 1, api.ErrForm)
}

// wrongLines: some that are none, and the error of each.
var wrongLines = []struct {
	line string
	err  api.Errno
}{
	{"", api.ErrForm}, {" ", api.ErrForm}, {"x", api.ErrForm}, {" halt", api.ErrForm}, {"halt ", api.ErrForm}, {"halt\r", api.ErrForm}, {"work", api.ErrForm}, {"work 05", api.ErrForm},
	{"mask r8", api.ErrForm}, {"wait r0 never 0", api.ErrForm}, {"send r0 r0 wait r1 0", api.ErrForm}, {"set r0 4294967296", api.ErrForm}, {"work 1001 ", api.ErrForm},
	{"work 0", api.ErrRange}, {"work 1001", api.ErrRange}, {"in r0 16", api.ErrRange}, {"out r0 4294967295", api.ErrRange},
}

func TestReadOfAWrongLine(t *testing.T) {
	for _, n := range []int{1, 2, 3, 100, 255, 256} {
		for _, at := range []int{1, (n + 1) / 2, n} {
			ahead, _ := halts(at - 1)
			behind, _ := halts(n - at)
			for _, w := range wrongLines {
				isRead(t, ahead+w.line+"\n"+behind, nil, at, w.err)
				// What stands behind it plays no part, be it too long or without an end.
				isRead(t, ahead+w.line+"\n"+behind+"work 0", nil, at, w.err)
				isRead(t, ahead+w.line+"\n"+behind+ahead+behind+strings.Repeat("halt\n", 256), nil, at, w.err)
			}
		}
	}
}

func TestReadTellsTheFirst(t *testing.T) {
	for _, v := range wrongLines {
		for _, w := range wrongLines {
			isRead(t, v.line+"\n"+w.line+"\n", nil, 1, v.err)
			isRead(t, "halt\n"+v.line+"\nhalt\n"+w.line+"\n", nil, 2, v.err)
			isRead(t, "halt\nhalt\n"+v.line+"\n"+w.line, nil, 3, v.err)
		}
	}
}

// read: what Read must answer, by the chapter's words.
func read(text string) ([]api.Instr, int, api.Errno) {
	var code []api.Instr
	for k, line := range strings.SplitAfter(text, "\n") {
		if line == "" {
			break // it stands behind the last line end
		}
		if k == 256 {
			return nil, 257, api.ErrLong
		}
		if !strings.HasSuffix(line, "\n") {
			return nil, k + 1, api.ErrForm
		}
		i, err := parsed(line[:len(line)-1])
		if err != api.OK {
			return nil, k + 1, err
		}
		code = append(code, i)
	}
	return code, 0, api.OK
}

// checkRead: Read says what it must by the chapter's words; and what is read has that text alone.
func checkRead(t *testing.T, text string) {
	t.Helper()
	code, at, err := read(text)
	isRead(t, text, code, at, err)
	if err == api.OK {
		isPrint(t, code, text, api.OK)
	}
}

// All texts of up to five of these pieces, from the first line on, and around the 256th.
func TestReadOfAllShortTexts(t *testing.T) {
	pieces := []string{"\n", "halt", "halt\n", "work 0\n", " ", "lock r0 1\n"}
	for _, n := range []int{0, 253, 254, 256} {
		ahead, _ := halts(n)
		texts := []string{""}
		for range 5 {
			var longer []string
			for _, text := range texts {
				checkRead(t, ahead+text)
				for _, p := range pieces {
					longer = append(longer, text+p)
				}
			}
			texts = longer
		}
		for _, text := range texts {
			checkRead(t, ahead+text)
		}
		if t.Failed() {
			return
		}
	}
}

// One byte of a text altered, left out or put in.
func TestReadOfAlteredTexts(t *testing.T) {
	text := "set r1 5\nrecv r0 r2 timed r1 3\nwait r4 try 2\nin r3 15\nhalt\n"
	for k := range len(text) {
		for b := range 256 {
			put := string([]byte{byte(b)})
			checkRead(t, text[:k]+put+text[k+1:])
			checkRead(t, text[:k]+put+text[k:])
		}
		checkRead(t, text[:k]+text[k+1:])
		checkRead(t, text[:k])
		checkRead(t, text[k:])
	}
}

func TestReadOfLongOnes(t *testing.T) {
	const long = 1 << 22
	for _, s := range []string{" ", "\n", "a", "0", "halt ", "halt", "r1 ", "\x00", "\xff"} {
		s = strings.Repeat(s, long/len(s))
		noLine(t, s)
		noLine(t, "halt "+s)
		noLine(t, "work "+s)
		noLine(t, "mask "+s)
		noLine(t, "wait r0 "+s)
		isRead(t, "halt\nhalt "+s, nil, 2, api.ErrForm)
		isRead(t, "halt\n"+s+"x\n", nil, 2, api.ErrForm)
		text, _ := halts(256)
		isRead(t, text+s, nil, 257, api.ErrLong)
	}
}

// P11.3

// made: a program of n instructions, by a rule that goes through all of them with fields of all kinds.
func made(n int, seed uint32) []api.Instr {
	next := func(below uint32) uint32 {
		seed = seed*1664525 + 1013904223
		return (seed >> 8) % below
	}
	var code []api.Instr
	for len(code) < n {
		i := right[next(uint32(len(right)))].i
		has := strings.Split(table[i.Op-1].has, " ")
		if slices.Contains(has, "A") {
			i.A = int(next(8))
		}
		if slices.Contains(has, "B") {
			i.B = int(next(8))
		}
		if slices.Contains(has, "C") && (!slices.Contains(has, "D") || i.D == api.MTimed) {
			i.C = int(next(8))
		}
		if slices.Contains(has, "K") {
			i.K = 1 + next(15)
			if i.Op != api.OWork && i.Op != api.OIn && i.Op != api.OOut {
				i.K = next(1<<24) << next(9)
			}
		}
		code = append(code, i)
	}
	return code
}

// spellings: the text of a program that can be, by the chapter's words.
func spellings(code []api.Instr) string {
	var b strings.Builder
	for _, i := range code {
		b.WriteString(spelling(i) + "\n")
	}
	return b.String()
}

func TestProgramsThereAndBack(t *testing.T) {
	for seed := range uint32(500) {
		for _, n := range []int{0, 1, 2, 3, 17, 255, 256} {
			code := made(n, seed)
			s := spellings(code)
			isPrint(t, code, s, api.OK)
			isRead(t, s, code, 0, api.OK)
		}
		long := made(257, seed)
		isPrint(t, long, "", api.ErrLong)
		isRead(t, spellings(long), nil, 257, api.ErrLong)
		if t.Failed() {
			return
		}
	}
}

// What is handed in stays, with its room; what is answered is new.
func TestWhatIsHandedInStays(t *testing.T) {
	room := made(300, 1)
	before := slices.Clone(room)
	s, err := listing.Print(room[:200])
	if s != spellings(before[:200]) || err != api.OK || !slices.Equal(room, before) {
		t.Errorf("Print: %s, or the program is another one", errors[err])
	}
	one, _, _ := listing.Read(s)
	two, _, _ := listing.Read(s)
	for k := range one {
		one[k] = api.Instr{}
	}
	one = append(one[:100], made(100, 2)...)
	if !slices.Equal(two, before[:200]) || len(one) != 200 {
		t.Error("Read: a program has changed with another one")
	}
	isRead(t, s, before[:200], 0, api.OK)
}

// It hangs on nothing that was told before.
func TestAnswersHangOnNothingBefore(t *testing.T) {
	for range 3 {
		isParse(t, "work 1001", api.Instr{}, api.ErrRange)
		isParse(t, "send r1 r2 timed r3 0", api.Instr{Op: api.OSend, A: 1, B: 2, C: 3, D: api.MTimed}, api.OK)
		noLine(t, "send r1 r2 timed 0")
		isParse(t, "send r1 r2 wait 0", api.Instr{Op: api.OSend, A: 1, B: 2}, api.OK)
		isRead(t, "halt\nx\n", nil, 2, api.ErrForm)
		isRead(t, "halt\n", []api.Instr{{Op: api.OHalt}}, 0, api.OK)
		isPrint(t, []api.Instr{{}}, "", api.ErrCode)
		isPrint(t, []api.Instr{{Op: api.OHalt}}, "halt\n", api.OK)
	}
}
