package verify

import (
	"math"
	"strconv"
	"strings"
	"testing"

	"covenant/api"
	"covenant/code"
)

// ops are the names of the instructions, from OpGas on.
var ops = strings.Fields("gas num bool text load store two one get has len put del call jump unless drop return")

// signs are those of layer 11, in their order.
var signs = strings.Fields("+ - * / % < <= > >= == != !")

// lay is instructions by their names, each with its A or the sign that this is, or with 0.
func lay(s string) []api.Instr {
	var l []api.Instr
	for _, part := range strings.Split(s, ",") {
		words := strings.Fields(part)
		if len(words) == 0 {
			continue
		}
		i := api.Instr{Op: api.Op(1 + indexOf(ops, words[0]))}
		if len(words) > 1 {
			n, err := strconv.ParseInt(words[1], 10, 64)
			if err != nil {
				n = int64(1 + indexOf(signs, words[1]))
			}
			i.A = n
		}
		l = append(l, i)
	}
	return l
}

func indexOf(l []string, s string) int {
	for i, other := range l {
		if other == s {
			return i
		}
	}
	panic("no such word: " + s)
}

// told is instructions as lay takes them.
func told(l []api.Instr) string {
	var parts []string
	for _, i := range l {
		parts = append(parts, ops[i.Op-1]+" "+strconv.FormatInt(i.A, 10))
	}
	return strings.Join(parts, ", ")
}

// types are those that letters stand for.
func types(letters string) []api.Type {
	var l []api.Type
	for _, c := range letters {
		l = append(l, api.Type(1+strings.IndexRune("ibs", c)))
	}
	return l
}

// result is the type of one letter, or TypeNone without one.
func result(letter string) api.Type {
	if letter == "" {
		return api.TypeNone
	}
	return types(letter)[0]
}

// fn is a function with parameters and a Result given by letters.
func fn(name, params, res string, slots int, instrs string) api.Code {
	return api.Code{Name: name, Params: types(params), Result: result(res), Slots: slots, Instrs: lay(instrs)}
}

func module(l ...api.Code) api.Module {
	return api.Module{Codes: l, Texts: [][]byte{[]byte("a"), nil}}
}

func mustBe(t *testing.T, want api.Errno, m api.Module) {
	t.Helper()
	if e := Check(m); e != want {
		for _, c := range m.Codes {
			t.Logf("%q %v %v %d: %.2000s", c.Name, c.Params, c.Result, c.Slots, told(c.Instrs))
		}
		t.Errorf("%v; want %v", e, want)
	}
}

// row is a function and what Check should return for a module of it.
type row struct {
	params, res string
	slots       int
	instrs      string
	want        api.Errno
}

func mustAll(t *testing.T, l []row) {
	t.Helper()
	for _, r := range l {
		mustBe(t, r.want, module(fn("f", r.params, r.res, r.slots, r.instrs)))
	}
}

// P13.1: the document's examples.
func TestExamples(t *testing.T) {
	mustAll(t, []row{
		{"", "", 0, "return", api.OK},
		{"", "", 0, "num 1, return", api.ErrStack},
		{"", "", 0, "jump 0", api.OK},
	})
}

// P13.1: modules as they usually are.
func TestOrdinary(t *testing.T) {
	mustBe(t, api.OK, api.Module{})
	mustBe(t, api.OK, module())
	sum := fn("sum", "ii", "i", 2, "gas 1, load 0, gas 1, load 1, two +, return")
	count := fn("count", "i", "i", 4, "gas 1, num 0, store 1, gas 1, num 0, load 0, store 3, store 2, load 2, load 3, two <, unless 23, gas 1, load 1, load 2, call 0, store 1, load 2, num 1, two +, store 2, gas 1, jump 8, load 1, return")
	keep := fn("keep", "sb", "", 2, "load 1, unless 7, load 0, load 0, get, put, jump 9, load 0, del, text 0, has, drop, return")
	mustBe(t, api.OK, module(sum))
	mustBe(t, api.OK, module(sum, count, keep))
	mustBe(t, api.OK, module(sum, keep, count))
	mustBe(t, api.ErrStack, module(count, sum, keep))
	mustBe(t, api.ErrStack, module(keep, sum, count))
}

// P13.1: each Code must be safe, wherever it stands.
func TestEachCode(t *testing.T) {
	for at := range 4 {
		for _, want := range []api.Errno{api.OK, api.ErrStack} {
			m := module()
			for i, name := range []string{"a", "b", "c", "d"} {
				c := fn(name, "i", "i", 1, "load 0, return")
				if i == at && want != api.OK {
					c = fn(name, "i", "b", 1, "load 0, return")
				}
				m.Codes = append(m.Codes, c)
			}
			mustBe(t, want, m)
		}
	}
}

// P13.1: the first instruction must exist, and what leads behind the last one fails.
func TestEnds(t *testing.T) {
	mustAll(t, []row{
		{"", "", 0, "", api.ErrStack},
		{"i", "i", 9, "", api.ErrStack},
		{"", "", 0, "gas 1", api.ErrStack},
		{"", "i", 0, "num 1", api.ErrStack},
		{"", "", 0, "num 1, drop", api.ErrStack},
		{"", "", 0, "jump 1", api.ErrStack},
		{"", "", 0, "jump 1, return", api.OK},
		{"", "", 0, "bool 1, unless 0", api.ErrStack},
		{"", "", 0, "bool 1, unless 2, return", api.OK},
		{"", "", 0, "bool 1, unless 3, return", api.ErrStack},
		{"", "", 0, "jump 2, gas 1, jump 1", api.OK},
		{"", "", 0, "jump 1, jump 0", api.OK},
	})
	for _, i := range []string{"gas 0", "num 1, drop", "text 1, del", "text 0, text 0, put", "num 1, store 0", "load 0, drop", "call 0", "return"} {
		want := api.ErrStack
		if i == "return" {
			want = api.OK
		}
		c := fn("f", "i", "", 1, "jump 1, "+i)
		if i == "call 0" {
			c.Params, c.Slots = nil, 0
		}
		mustBe(t, want, module(c))
		c.Instrs = append(c.Instrs, lay("return")...)
		mustBe(t, api.OK, module(c))
	}
}

// P13.1: what nobody comes to may be as it will, but for its Op.
func TestUnreached(t *testing.T) {
	for _, bad := range []string{"drop", "gas -1", "bool 2", "text 2", "load 0", "store 9", "two 0", "one 1", "call 1", "jump 9", "unless -1", "return", "gas 1"} {
		if bad != "return" && bad != "gas 1" {
			mustBe(t, api.ErrStack, module(fn("f", "", "i", 1, bad+", num 1, return")))
		}
		mustBe(t, api.OK, module(fn("f", "", "i", 1, "num 1, return, "+bad)))
		mustBe(t, api.OK, module(fn("f", "", "i", 1, "num 1, jump 3, "+bad+", return")))
		mustBe(t, api.OK, module(fn("f", "", "", 1, "jump 0, "+bad)))
		mustBe(t, api.OK, module(fn("f", "", "", 1, "jump 4, "+bad+", "+bad+", jump 1, return")))
		c := fn("f", "", "", 1, "return, "+bad)
		c.Instrs[1].Op = api.OpReturn + 1
		mustBe(t, api.ErrCode, module(c))
	}
}

// P13.1: no two Codes have the same Name.
func TestNames(t *testing.T) {
	named := func(names ...string) api.Module {
		m := module()
		for _, n := range names {
			m.Codes = append(m.Codes, fn(n, "", "", 0, "return"))
		}
		return m
	}
	for _, l := range [][]string{{""}, {"f", "g"}, {"f", "F"}, {"", "\x00"}, {"f", "f\x00"}, {"a", "b", "c", "d"}, {"é", "\xFF"}, {strings.Repeat("n", 16), strings.Repeat("n", 15)}} {
		mustBe(t, api.OK, named(l...))
	}
	for _, l := range [][]string{{"", ""}, {"f", "f"}, {"a", "b", "a"}, {"a", "b", "b"}, {"a", "a", "b"}, {"\xFF", "a", "b", "c", "\xFF"}, {strings.Repeat("n", 16), strings.Repeat("n", 16)}} {
		mustBe(t, api.ErrStack, named(l...))
	}
	m := module(fn("f", "i", "", 1, "return"), fn("f", "", "i", 0, "num 1, return"))
	mustBe(t, api.ErrStack, m)
	m.Codes[1].Name = "g"
	mustBe(t, api.OK, m)
	for i := range 64 {
		m = named(many(64)...)
		mustBe(t, api.OK, m)
		m.Codes[i].Name = m.Codes[(i+17)%64].Name
		mustBe(t, api.ErrStack, m)
	}
}

// many is so many names.
func many(n int) []string {
	var l []string
	for i := range n {
		l = append(l, "f"+strconv.Itoa(i))
	}
	return l
}

// P13.1: a module that is not valid is ErrCode, whether it is safe otherwise or not.
func TestNotValid(t *testing.T) {
	long := make([]byte, api.MaxText+1)
	for what, spoil := range map[string]func(m *api.Module){
		"Name":           func(m *api.Module) { m.Codes[1].Name = strings.Repeat("n", 17) },
		"Params":         func(m *api.Module) { m.Codes[1].Params, m.Codes[1].Slots = types(strings.Repeat("i", 17)), 17 },
		"Params with 0":  func(m *api.Module) { m.Codes[1].Params[0] = api.TypeNone },
		"Params with 4":  func(m *api.Module) { m.Codes[1].Params[0] = 4 },
		"Params with -1": func(m *api.Module) { m.Codes[1].Params[0] = -1 },
		"Result 4":       func(m *api.Module) { m.Codes[1].Result = 4 },
		"Result -1":      func(m *api.Module) { m.Codes[1].Result = -1 },
		"Slots -1":       func(m *api.Module) { m.Codes[1].Slots = -1 },
		"Slots 257":      func(m *api.Module) { m.Codes[1].Slots = 257 },
		"too few Slots":  func(m *api.Module) { m.Codes[1].Slots = 0 },
		"Op 0":           func(m *api.Module) { m.Codes[1].Instrs[2].Op = 0 },
		"Op 19":          func(m *api.Module) { m.Codes[1].Instrs[2].Op = 19 },
		"Op -1":          func(m *api.Module) { m.Codes[1].Instrs[2].Op = -1 },
		"too many Instrs": func(m *api.Module) {
			m.Codes[1].Instrs = append(m.Codes[1].Instrs, make([]api.Instr, api.MaxInstrs)...)
		},
		"too many Codes":  func(m *api.Module) { m.Codes = append(m.Codes, make([]api.Code, api.MaxCodes)...) },
		"too long a Text": func(m *api.Module) { m.Texts[1] = long },
		"too many Texts":  func(m *api.Module) { m.Texts = make([][]byte, api.MaxRow+1) },
	} {
		for _, first := range []string{"return", "num 1, return", "", "drop"} {
			for _, name := range []string{"f", "g"} {
				m := module(fn("f", "", "", 0, first), fn(name, "i", "i", 1, "load 0, return, return"))
				want := api.OK
				if first != "return" || name == "f" {
					want = api.ErrStack
				}
				mustBe(t, want, m)
				spoil(&m)
				if e := Check(m); e != api.ErrCode {
					t.Errorf("%s, %q, %q: %v", what, first, name, e)
				}
			}
		}
	}
}

// wantMade is what each sign makes of two types, by letters.
var wantMade = map[string]string{
	"+": "iii sss", "-": "iii", "*": "iii", "/": "iii", "%": "iii",
	"<": "iib", "<=": "iib", ">": "iib", ">=": "iib",
	"==": "iib bbb ssb", "!=": "iib bbb ssb", "!": "",
}

// made is the type that a list has for a and b.
func made(l string, a, b api.Type) api.Type {
	for _, s := range strings.Fields(l) {
		if k := types(s); k[0] == a && k[1] == b {
			return k[2]
		}
	}
	return api.TypeNone
}

// P13.1: Made of each sign and each two types.
func TestMade(t *testing.T) {
	if len(wantMade) != len(signs) {
		t.Fatal(wantMade)
	}
	for i, sign := range signs {
		if code.Sign(int64(i+1)) != sign {
			t.Fatal(sign)
		}
		l, ok := wantMade[sign]
		if !ok {
			t.Fatal(sign)
		}
		for a := api.TypeNone; a <= api.TypeBytes; a++ {
			for b := api.TypeNone; b <= api.TypeBytes; b++ {
				if got, want := Made(sign, a, b), made(l, a, b); got != want {
					t.Errorf("Made(%q, %d, %d): %d; want %d", sign, a, b, got, want)
				}
			}
		}
	}
}

// P13.1: texts that are no sign make nothing.
func TestMadeOfNoSign(t *testing.T) {
	for _, s := range []string{"", " ", "&&", "||", "=", "===", "!==", "<>", "=<", "=>", "++", "+ ", " +", "+\x00", "-+", "plus", "&", "|", "(", "1", "é", "\xFF", "＋", strings.Repeat("+", 300), strings.Repeat("=", 1<<20)} {
		for a := api.TypeNone - 1; a <= api.TypeBytes+1; a++ {
			for b := api.TypeNone - 1; b <= api.TypeBytes+1; b++ {
				if got := Made(s, a, b); got != api.TypeNone {
					t.Errorf("Made(%.20q, %d, %d): %d", s, a, b, got)
				}
			}
		}
	}
}

// P13.1 and P1: for other numbers than those of types, only the signs that take any two equal types make something.
func TestMadeOfNoType(t *testing.T) {
	for _, sign := range signs {
		for _, odd := range []api.Type{-1, 4, 5, math.MaxInt, math.MinInt} {
			want := api.TypeNone
			if sign == "==" || sign == "!=" {
				want = api.TypeBool
			}
			if got := Made(sign, odd, odd); got != want {
				t.Errorf("Made(%q, %d, %d): %d", sign, odd, odd, got)
			}
			for k := api.TypeNone; k <= api.TypeBytes; k++ {
				if Made(sign, odd, k) != api.TypeNone || Made(sign, k, odd) != api.TypeNone {
					t.Errorf("Made(%q) of %d and %d", sign, odd, k)
				}
			}
		}
	}
}
