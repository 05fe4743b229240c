package compile

import (
	"reflect"
	"slices"
	"strconv"
	"strings"
	"testing"

	"covenant/api"
)

// ops are the names that the tests give to the Ops from OpGas to OpReturn.
var ops = strings.Fields("gas num bool text load store two one get has len put del call jump unless drop return")

var signs = strings.Fields("+ - * / % < <= > >= == != !")

// laid is the instructions that a text tells, such as "gas 1, two +, return 0".
func laid(text string) []api.Instr {
	var l []api.Instr
	for _, part := range strings.Split(text, ", ") {
		op, arg, _ := strings.Cut(part, " ")
		a, err := strconv.ParseInt(arg, 10, 64)
		if err != nil {
			a = int64(slices.Index(signs, arg)) + 1
		}
		if slices.Index(ops, op) < 0 || err != nil && a == 0 {
			panic("no instruction: " + part)
		}
		l = append(l, api.Instr{Op: api.Op(slices.Index(ops, op) + 1), A: a})
	}
	return l
}

// told is the text of instructions.
func told(l []api.Instr) string {
	var parts []string
	for _, i := range l {
		parts = append(parts, ops[i.Op-1]+" "+strconv.FormatInt(i.A, 10))
	}
	return strings.Join(parts, ", ")
}

// built is the module of a source.
func built(t *testing.T, src string) api.Module {
	t.Helper()
	m, e, at := Build([]byte(src))
	if e != api.OK || at != 0 {
		t.Fatalf("Build(%q): %v, %d", src, e, at)
	}
	return m
}

// same reports whether two modules are equal. A list that is nil is equal to one that is empty.
func same(a, b api.Module) bool {
	return slices.EqualFunc(a.Codes, b.Codes, func(c, d api.Code) bool {
		return c.Name == d.Name && slices.Equal(c.Params, d.Params) && c.Result == d.Result && c.Slots == d.Slots && slices.Equal(c.Instrs, d.Instrs)
	}) && slices.EqualFunc(a.Texts, b.Texts, func(s, t []byte) bool { return string(s) == string(t) })
}

// texts is the Texts of a module.
func texts(m api.Module) []string {
	var l []string
	for _, s := range m.Texts {
		l = append(l, string(s))
	}
	return l
}

// checkFirst holds the instructions and slots of the first function of a source against those that it should have.
func checkFirst(t *testing.T, src, want string, slots int) {
	t.Helper()
	c := built(t, src).Codes[0]
	if !slices.Equal(c.Instrs, laid(want)) {
		t.Errorf("%s\n     %s\nwant %s", src, told(c.Instrs), told(laid(want)))
	}
	if c.Slots != slots {
		t.Errorf("%s\n%d slots, want %d", src, c.Slots, slots)
	}
}

// P12.1: the examples of the document.
func TestExamples(t *testing.T) {
	checkFirst(t, `fn f(): int { return 2; }`, "gas 1, gas 1, num 2, return 0", 0)
	checkFirst(t, `fn f() { }`, "return 0", 0)
}

// P12.1: each kind of expression by itself, as what a function returns.
func TestExpressions(t *testing.T) {
	for _, c := range []struct{ kind, src, want string }{
		{"int", `0`, "num 0"},
		{"int", `7`, "num 7"},
		{"int", `9223372036854775807`, "num 9223372036854775807"},
		{"bool", `true`, "bool 1"},
		{"bool", `false`, "bool 0"},
		{"bytes", `""`, "text 0"},
		{"bytes", `"abc"`, "text 0"},
		{"int", `i`, "load 0"},
		{"bool", `b`, "load 1"},
		{"bytes", `s`, "load 2"},
		{"int", `(i)`, "load 0"},
		{"int", `-i`, "gas 1, load 0, one -"},
		{"int", `- -7`, "gas 1, gas 1, num 7, one -, one -"},
		{"bool", `!b`, "gas 1, load 1, one !"},
		{"bytes", `get(s)`, "gas 1, load 2, get 0"},
		{"bool", `has(s)`, "gas 1, load 2, has 0"},
		{"int", `len(s)`, "gas 1, load 2, len 0"},
		{"int", `len(get("k"))`, "gas 1, gas 1, text 0, get 0, len 0"},
		{"int", `i + 1`, "gas 1, load 0, gas 1, num 1, two +"},
		{"int", `1 - i`, "gas 1, num 1, gas 1, load 0, two -"},
		{"int", `i * 2`, "gas 1, load 0, gas 1, num 2, two *"},
		{"int", `i / 3`, "gas 1, load 0, gas 1, num 3, two /"},
		{"int", `i % 4`, "gas 1, load 0, gas 1, num 4, two %"},
		{"bool", `i < 5`, "gas 1, load 0, gas 1, num 5, two <"},
		{"bool", `i <= 6`, "gas 1, load 0, gas 1, num 6, two <="},
		{"bool", `i > 7`, "gas 1, load 0, gas 1, num 7, two >"},
		{"bool", `i >= 8`, "gas 1, load 0, gas 1, num 8, two >="},
		{"bool", `i == 9`, "gas 1, load 0, gas 1, num 9, two =="},
		{"bool", `i != 9`, "gas 1, load 0, gas 1, num 9, two !="},
		{"bool", `s == "x"`, "gas 1, load 2, gas 1, text 0, two =="},
		{"bool", `b != true`, "gas 1, load 1, gas 1, bool 1, two !="},
		{"bytes", `s + "x"`, "gas 1, load 2, gas 1, text 0, two +"},
		{"int", `1 + 2 * 3`, "gas 1, num 1, gas 1, gas 1, num 2, gas 1, num 3, two *, two +"},
		{"int", `1 - 2 - 3`, "gas 1, gas 1, num 1, gas 1, num 2, two -, gas 1, num 3, two -"},
		{"int", `1 - (2 - 3)`, "gas 1, num 1, gas 1, gas 1, num 2, gas 1, num 3, two -, two -"},
		{"bool", `b && false`, "gas 1, load 1, unless 8, gas 1, bool 0, jump 9, bool 0"},
		{"bool", `b || false`, "gas 1, load 1, unless 7, bool 1, jump 9, gas 1, bool 0"},
		{"bool", `b && b && b`, "gas 1, gas 1, load 1, unless 9, gas 1, load 1, jump 10, bool 0, unless 14, gas 1, load 1, jump 15, bool 0"},
		{"bool", `b || b || b`, "gas 1, gas 1, load 1, unless 8, bool 1, jump 10, gas 1, load 1, unless 13, bool 1, jump 15, gas 1, load 1"},
		{"bool", `b || b && true`, "gas 1, load 1, unless 7, bool 1, jump 15, gas 1, gas 1, load 1, unless 14, gas 1, bool 1, jump 15, bool 0"},
		{"bool", `b && (b || true)`, "gas 1, load 1, unless 14, gas 1, gas 1, load 1, unless 11, bool 1, jump 13, gas 1, bool 1, jump 15, bool 0"},
		{"bool", `!(b && true)`, "gas 1, gas 1, load 1, unless 9, gas 1, bool 1, jump 10, bool 0, one !"},
		{"bool", `(b && true) == false`, "gas 1, gas 1, load 1, unless 9, gas 1, bool 1, jump 10, bool 0, gas 1, bool 0, two =="},
		{"int", `g()`, "call 1"},
		{"int", `h(i, s)`, "gas 1, load 0, gas 1, load 2, call 2"},
		{"int", `h(-1, get("k"))`, "gas 1, gas 1, num 1, one -, gas 1, gas 1, text 0, get 0, call 2"},
		{"int", `h(g(), s) + g()`, "gas 1, gas 1, call 1, gas 1, load 2, call 2, gas 1, call 1, two +"},
	} {
		src := "fn f(i: int, b: bool, s: bytes): " + c.kind + " { return " + c.src + "; } fn g(): int { return 1; } fn h(a: int, b: bytes): int { return 2; }"
		checkFirst(t, src, "gas 1, gas 1, "+c.want+", return 0", 3)
	}
}

// P12.1: each kind of statement by itself, ahead of the OpReturn 0 of a function without a Result.
func TestStatements(t *testing.T) {
	for _, c := range []struct {
		src, want string
		slots     int
	}{
		{`let x = 5;`, "gas 1, gas 1, num 5, store 3", 4},
		{`let x = s;`, "gas 1, gas 1, load 2, store 3", 4},
		{`i = 5;`, "gas 1, gas 1, num 5, store 0", 3},
		{`b = !b;`, "gas 1, gas 1, gas 1, load 1, one !, store 1", 3},
		{`s = s + "x";`, "gas 1, gas 1, gas 1, load 2, gas 1, text 0, two +, store 2", 3},
		{`return;`, "gas 1, return 0", 3},
		{`put("k", s);`, "gas 1, gas 1, text 0, gas 1, load 2, put 0", 3},
		{`put(s, "k");`, "gas 1, gas 1, load 2, gas 1, text 0, put 0", 3},
		{`del("k");`, "gas 1, gas 1, text 0, del 0", 3},
		{`n();`, "gas 1, gas 1, call 1", 3},
		{`g();`, "gas 1, gas 1, call 2, drop 0", 3},
		{`h(i, s);`, "gas 1, gas 1, gas 1, load 0, gas 1, load 2, call 3, drop 0", 3},
		{`k();`, "gas 1, gas 1, call 4, drop 0", 3},
		{`f(1, true, "x");`, "gas 1, gas 1, gas 1, num 1, gas 1, bool 1, gas 1, text 0, call 0", 3},
		{`n(); g(); n();`, "gas 1, gas 1, call 1, gas 1, gas 1, call 2, drop 0, gas 1, gas 1, call 1", 3},
		{`if b { }`, "gas 1, gas 1, load 1, unless 5, jump 5", 3},
		{`if b { } else { }`, "gas 1, gas 1, load 1, unless 5, jump 5", 3},
		{`if b { n(); }`, "gas 1, gas 1, load 1, unless 8, gas 1, gas 1, call 1, jump 8", 3},
		{`if b { n(); } else { i = 1; }`, "gas 1, gas 1, load 1, unless 8, gas 1, gas 1, call 1, jump 12, gas 1, gas 1, num 1, store 0", 3},
		{`if b { } else { n(); }`, "gas 1, gas 1, load 1, unless 5, jump 8, gas 1, gas 1, call 1", 3},
		{`if b { return; }`, "gas 1, gas 1, load 1, unless 6, gas 1, return 0", 3},
		{`if b { return; } else { n(); }`, "gas 1, gas 1, load 1, unless 6, gas 1, return 0, gas 1, gas 1, call 1", 3},
		{`if b { n(); } else { return; }`, "gas 1, gas 1, load 1, unless 8, gas 1, gas 1, call 1, jump 10, gas 1, return 0", 3},
		{`if b { return; } else { return; }`, "gas 1, gas 1, load 1, unless 6, gas 1, return 0, gas 1, return 0", 3},
		{`if b { return; n(); }`, "gas 1, gas 1, load 1, unless 10, gas 1, return 0, gas 1, gas 1, call 1, jump 10", 3},
		{`if b && b { n(); }`, "gas 1, gas 1, gas 1, load 1, unless 8, gas 1, load 1, jump 9, bool 0, unless 14, gas 1, gas 1, call 1, jump 14", 3},
		{`for x = 1 to i { }`, "gas 1, gas 1, num 1, gas 1, load 0, store 4, store 3, load 3, load 4, two <, unless 17, gas 1, load 3, num 1, two +, store 3, jump 7", 5},
		{`for x = 1 to i { i = x; }`, "gas 1, gas 1, num 1, gas 1, load 0, store 4, store 3, load 3, load 4, two <, unless 21, gas 1, gas 1, gas 1, load 3, store 0, load 3, num 1, two +, store 3, jump 7", 5},
		{`for x = 1 to i { return; }`, "gas 1, gas 1, num 1, gas 1, load 0, store 4, store 3, load 3, load 4, two <, unless 19, gas 1, gas 1, return 0, load 3, num 1, two +, store 3, jump 7", 5},
	} {
		src := "fn f(i: int, b: bool, s: bytes) { " + c.src + " } fn n() { } fn g(): int { return 1; } fn h(a: int, b: bytes): bool { return true; } fn k(): bytes { return \"\"; }"
		checkFirst(t, src, c.want+", return 0", c.slots)
	}
}

// P12.1, P12.2: blocks within blocks, with jumps from each of them.
func TestNested(t *testing.T) {
	checkFirst(t, `fn f(b: bool): int { if b { if b { return 1; } else { return 2; } } else { return 3; } }`,
		"gas 1, gas 1, load 0, unless 16, gas 1, gas 1, load 0, unless 12, gas 1, gas 1, num 1, return 0, gas 1, gas 1, num 2, return 0, gas 1, gas 1, num 3, return 0", 1)
	checkFirst(t, `fn f(b: bool) { if b { if b { return; } } else { del(""); } }`,
		"gas 1, gas 1, load 0, unless 11, gas 1, gas 1, load 0, unless 10, gas 1, return 0, jump 15, gas 1, gas 1, text 0, del 0, return 0", 1)
	checkFirst(t, `fn f(b: bool) { if b { } else { if b { } else { if b { } } } }`,
		"gas 1, gas 1, load 0, unless 5, jump 15, gas 1, gas 1, load 0, unless 10, jump 15, gas 1, gas 1, load 0, unless 15, jump 15, return 0", 1)
	checkFirst(t, `fn f(b: bool) { for x = 0 to 9 { if b { return; } else { } } }`,
		"gas 1, gas 1, num 0, gas 1, num 9, store 2, store 1, load 1, load 2, two <, unless 23, gas 1, gas 1, gas 1, load 0, unless 18, gas 1, return 0, load 1, num 1, two +, store 1, jump 7, return 0", 3)
	checkFirst(t, `fn f(b: bool) { if b { for x = 0 to 9 { } } else { return; } }`,
		"gas 1, gas 1, load 0, unless 22, gas 1, gas 1, num 0, gas 1, num 9, store 2, store 1, load 1, load 2, two <, unless 21, gas 1, load 1, num 1, two +, store 1, jump 11, jump 24, gas 1, return 0, return 0", 3)
	checkFirst(t, `fn f() { for x = 0 to 3 { for y = x to 4 { } } }`,
		"gas 1, gas 1, num 0, gas 1, num 3, store 1, store 0, load 0, load 1, two <, unless 34, gas 1, "+
			"gas 1, gas 1, load 0, gas 1, num 4, store 3, store 2, load 2, load 3, two <, unless 29, gas 1, load 2, num 1, two +, store 2, jump 19, "+
			"load 0, num 1, two +, store 0, jump 7, return 0", 4)
}

// P12.1: an OpReturn 0 is added to each function without a Result, and to no other.
func TestLastReturn(t *testing.T) {
	checkFirst(t, `fn f() { return; }`, "gas 1, return 0, return 0", 0)
	checkFirst(t, `fn f() { return; return; }`, "gas 1, return 0, gas 1, return 0, return 0", 0)
	checkFirst(t, `fn f() { if true { return; } else { return; } }`, "gas 1, gas 1, bool 1, unless 6, gas 1, return 0, gas 1, return 0, return 0", 0)
	checkFirst(t, `fn f(): int { return 1; return 2; }`, "gas 1, gas 1, num 1, return 0, gas 1, gas 1, num 2, return 0", 0)
	checkFirst(t, `fn f(): bool { if true { return false; } return true; }`, "gas 1, gas 1, bool 1, unless 8, gas 1, gas 1, bool 0, return 0, gas 1, gas 1, bool 1, return 0", 0)
	checkFirst(t, `fn f(): bytes { if true { return ""; } else { return ""; } }`, "gas 1, gas 1, bool 1, unless 8, gas 1, gas 1, text 0, return 0, gas 1, gas 1, text 0, return 0", 0)
}

// P12.1: each let and for has slots of its own, in the order in which they stand.
func TestSlots(t *testing.T) {
	checkFirst(t, `fn f() { let a = 1; let b = 2; let c = a; c = b; }`,
		"gas 1, gas 1, num 1, store 0, gas 1, gas 1, num 2, store 1, gas 1, gas 1, load 0, store 2, gas 1, gas 1, load 1, store 2, return 0", 3)
	checkFirst(t, `fn f(z: int, a: int, m: int) { m = a; a = z; z = m; }`,
		"gas 1, gas 1, load 1, store 2, gas 1, gas 1, load 0, store 1, gas 1, gas 1, load 2, store 0, return 0", 3)
	checkFirst(t, `fn f(c: bool) { if c { let a = 1; a = 2; } else { let a = 3; a = 4; } let a = 5; a = 6; }`,
		"gas 1, gas 1, load 0, unless 13, gas 1, gas 1, num 1, store 1, gas 1, gas 1, num 2, store 1, jump 21, "+
			"gas 1, gas 1, num 3, store 2, gas 1, gas 1, num 4, store 2, gas 1, gas 1, num 5, store 3, gas 1, gas 1, num 6, store 3, return 0", 4)
	checkFirst(t, `fn f() { for i = 0 to 1 { let a = i; } for i = 2 to 3 { let a = i; a = 4; } let i = true; let a = i; }`,
		"gas 1, gas 1, num 0, gas 1, num 1, store 1, store 0, load 0, load 1, two <, unless 21, gas 1, gas 1, gas 1, load 0, store 2, load 0, num 1, two +, store 0, jump 7, "+
			"gas 1, gas 1, num 2, gas 1, num 3, store 4, store 3, load 3, load 4, two <, unless 46, gas 1, gas 1, gas 1, load 3, store 5, gas 1, gas 1, num 4, store 5, load 3, num 1, two +, store 3, jump 28, "+
			"gas 1, gas 1, bool 1, store 6, gas 1, gas 1, load 6, store 7, return 0", 8)
	checkFirst(t, `fn f(f: int, g: int): int { return f(g, g(f)); } fn g(g: int): int { return g; }`,
		"gas 1, gas 1, gas 1, load 1, gas 1, gas 1, load 0, call 1, call 0, return 0", 2)
}

// P12.1: slots, and places, begin anew in each function; a call tells the place of a function in the program.
func TestFunctions(t *testing.T) {
	m := built(t, `
		fn last(b: bool, a: int): int { let x = a; return self(x); }
		fn self(n: int): int { if n < 1 { return 0; } return self(n - 1); }
		fn none(s: bytes) { let y = s; none(y); last(true, 1); }
		fn ahead(): bytes { after(); return ""; }
		fn after(): bool { return true; }`)
	want := api.Module{Codes: []api.Code{
		{Name: "last", Params: []api.Type{api.TypeBool, api.TypeInt}, Result: api.TypeInt, Slots: 3, Instrs: laid("gas 1, gas 1, load 1, store 2, gas 1, gas 1, gas 1, load 2, call 1, return 0")},
		{Name: "self", Params: []api.Type{api.TypeInt}, Result: api.TypeInt, Slots: 1, Instrs: laid("gas 1, gas 1, gas 1, load 0, gas 1, num 1, two <, unless 12, gas 1, gas 1, num 0, return 0, gas 1, gas 1, gas 1, gas 1, load 0, gas 1, num 1, two -, call 1, return 0")},
		{Name: "none", Params: []api.Type{api.TypeBytes}, Slots: 2, Instrs: laid("gas 1, gas 1, load 0, store 1, gas 1, gas 1, gas 1, load 1, call 2, gas 1, gas 1, gas 1, bool 1, gas 1, num 1, call 0, drop 0, return 0")},
		{Name: "ahead", Result: api.TypeBytes, Instrs: laid("gas 1, gas 1, call 4, drop 0, gas 1, gas 1, text 0, return 0")},
		{Name: "after", Result: api.TypeBool, Instrs: laid("gas 1, gas 1, bool 1, return 0")},
	}, Texts: [][]byte{{}}}
	if !same(m, want) {
		t.Errorf("%+v", m)
	}
}

// P12.1: each text once, in the order of the first occurrence, whichever function it is in.
func TestTexts(t *testing.T) {
	m := built(t, `
		fn f(): bytes { put("b", "a"); return "b" + "c"; }
		fn g(): bytes { if has("d") { del("a"); } else { del("e"); } return ""; }
		fn h() { for i = len("z") to len("y") { del("b"); } return; put("x", ""); }`)
	if got, want := texts(m), []string{"b", "a", "c", "d", "e", "", "z", "y", "x"}; !slices.Equal(got, want) {
		t.Errorf("%q", got)
	}
	var used [][]int64
	for _, c := range m.Codes {
		var l []int64
		for _, i := range c.Instrs {
			if i.Op == api.OpText {
				l = append(l, i.A)
			}
		}
		used = append(used, l)
	}
	if want := [][]int64{{0, 1, 0, 2}, {3, 1, 4, 5}, {6, 7, 0, 8, 5}}; !reflect.DeepEqual(used, want) {
		t.Error(used)
	}
	checkFirst(t, `fn f(): bool { return "x" == "x"; }`, "gas 1, gas 1, gas 1, text 0, gas 1, text 0, two ==, return 0", 0)
	if got := texts(built(t, `fn f(a: int) { let ab = a; }`)); len(got) != 0 {
		t.Errorf("names are not texts: %q", got)
	}
}

// P12.1: a program without functions has a module without Codes and Texts.
func TestNothing(t *testing.T) {
	m, e := Compile(api.Program{})
	if e != api.OK || !same(m, api.Module{}) {
		t.Error(m, e)
	}
	for _, src := range []string{"", " # nothing\n"} {
		if m := built(t, src); !same(m, api.Module{}) {
			t.Error(m)
		}
	}
}
