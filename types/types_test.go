package types

import (
	"bytes"
	"reflect"
	"strconv"
	"strings"
	"testing"

	"covenant/api"
	"covenant/syntax"
)

// parsed is the program of a source.
func parsed(t *testing.T, src string) api.Program {
	t.Helper()
	p, e, at := syntax.Parse([]byte(src))
	if e != api.OK {
		t.Fatalf("Parse(%q): %v, %d", src, e, at)
	}
	return p
}

// mustFit fails unless a source is a valid program.
func mustFit(t *testing.T, src string) {
	t.Helper()
	want := parsed(t, src)
	if e, at := Check(want); e != api.OK || at != 0 {
		t.Errorf("Check(%q) = %v, %d", src, e, at)
	}
	if p, e, at := Front([]byte(src)); e != api.OK || at != 0 || !reflect.DeepEqual(p, want) {
		t.Errorf("Front(%q) = %+v, %v, %d", src, p, e, at)
	}
}

// unmarked takes the @ out of a source, and returns where it stood.
func unmarked(marked string) (string, int) {
	where := strings.Index(marked, "@")
	return marked[:where] + marked[where+1:], where
}

// mustRefuse fails unless a source, in which @ stands where the error is, has this error and nothing beside it.
func mustRefuse(t *testing.T, marked string, want api.Errno) {
	t.Helper()
	src, where := unmarked(marked)
	if e, at := Check(parsed(t, src)); e != want || at != where {
		t.Errorf("Check(%q) = %v, %d; want %v, %d", src, e, at, want, where)
	}
	if p, e, at := Front([]byte(src)); p.Funcs != nil || e != want || at != where {
		t.Errorf("Front(%q) = %d functions, %v, %d; want none, %v, %d", src, len(p.Funcs), e, at, want, where)
	}
}

// mustRefuseChanged is for a program that no source is: that of a marked source, changed.
func mustRefuseChanged(t *testing.T, marked string, want api.Errno, change func(f []api.Func)) {
	t.Helper()
	src, where := unmarked(marked)
	p := parsed(t, src)
	change(p.Funcs)
	if e, at := Check(p); e != want || at != where {
		t.Errorf("Check(%q, changed to %+v) = %v, %d; want %v, %d", src, p, e, at, want, where)
	}
}

// mustCheck fails unless functions have this verdict.
func mustCheck(t *testing.T, want api.Errno, where int, funcs ...api.Func) {
	t.Helper()
	if e, at := Check(api.Program{Funcs: funcs}); e != want || at != where {
		t.Errorf("Check(%.300q) = %v, %d; want %v, %d", syntax.Show(api.Program{Funcs: funcs}), e, at, want, where)
	}
}

// repeated joins n texts, in each of which # is its number.
func repeated(n int, form, between string) string {
	var l []string
	for i := range n {
		l = append(l, strings.ReplaceAll(form, "#", strconv.Itoa(i)))
	}
	return strings.Join(l, between)
}

func TestExamples(t *testing.T) {
	mustRefuse(t, "@fn f(): int { }", api.ErrEnds)
	mustRefuse(t, "fn f(a: int) { @let a = 1; }", api.ErrTwice)
}

func TestNoFunctions(t *testing.T) {
	mustFit(t, "")
	mustFit(t, " # nothing")
	mustCheck(t, api.OK, 0)
	if e, at := Check(api.Program{Funcs: []api.Func{}}); e != api.OK || at != 0 {
		t.Error(e, at)
	}
	if p, e, at := Front(nil); p.Funcs != nil || e != api.OK || at != 0 {
		t.Error(p, e, at)
	}
}

func TestValid(t *testing.T) {
	for _, src := range []string{
		"fn f() { }",
		"fn f(a: int, b: bool, c: bytes) { }",
		"fn f(a: int, b: bool, c: bytes): int { return a; }",
		"fn f(a: int, b: bool, c: bytes): bool { return b; }",
		"fn f(a: int, b: bool, c: bytes): bytes { return c; }",
		"fn f() { return; }",
		"fn f() { return; return; }",
		"fn f(a: int): int { let b = a + 1; b = b * 2; return b; }",
		"fn f() { let a = 1; let b = true; let c = \"x\"; a = 2; b = false; c = \"y\"; }",
		"fn f(a: int, b: bool, c: bytes) { a = 1; b = !b; c = c + c; }",
		"fn f(k: bytes) { put(k, k); del(k); if has(k) { put(k, get(k)); } }",
		// A function may call itself, and one behind it.
		"fn f() { f(); } fn g() { f(); h(); } fn h() { g(); }",
		"fn f(): int { return g(1, true, \"\"); } fn g(a: int, b: bool, c: bytes): int { return f(); }",
		// Functions and variables have names of their own.
		"fn f(f: int): int { let g = f(f); return f(g); } fn g(g: int) { g = 1; g(g); }",
		"fn f() { for i = 0 to 3 { let j = i * 2; g(j); } } fn g(i: int) { }",
	} {
		mustFit(t, src)
	}
}

func TestManyFunctions(t *testing.T) {
	mustFit(t, repeated(64, "fn f#() { }", " "))
	src := "@" + repeated(65, "fn f#() { }", " ")
	mustRefuse(t, src, api.ErrTooMany)
	// Offset 0, also if the first function begins behind it.
	p := parsed(t, "  "+repeated(65, "fn f#() { }", " "))
	mustCheck(t, api.ErrTooMany, 0, p.Funcs...)
	if p, e, at := Front([]byte("  " + repeated(65, "fn f#() { }", " "))); p.Funcs != nil || e != api.ErrTooMany || at != 0 {
		t.Error(len(p.Funcs), e, at)
	}
	// It is checked first of all.
	mustCheck(t, api.ErrTooMany, 0, make([]api.Func, 65)...)
	mustCheck(t, api.ErrTooMany, 0, make([]api.Func, 10000)...)
	mustRefuse(t, "@"+repeated(65, "fn f#(): int { x; }", " "), api.ErrTooMany)
	mustRefuse(t, "fn f() { } "+repeated(62, "fn f#() { }", " ")+" @fn f() { }", api.ErrTwice)
}

func TestFunctionsOfOneName(t *testing.T) {
	mustRefuse(t, "fn f() { } @fn f() { }", api.ErrTwice)
	mustRefuse(t, "fn f() { } fn g() { } @fn f(a: int) { }", api.ErrTwice)
	mustRefuse(t, "fn f() { } @fn f() { } fn f() { }", api.ErrTwice)
	mustRefuse(t, "fn f() { } fn g() { } @fn g() { } fn f() { }", api.ErrTwice)
	// It is checked ahead of all that is within functions.
	mustRefuse(t, "fn f(a: int, a: int): int { x = 1; } @fn f() { }", api.ErrTwice)
	mustRefuse(t, "fn g() { x = 1; } fn f() { } @fn f() { }", api.ErrTwice)
	mustFit(t, "fn f() { } fn ff() { } fn f_() { } fn f1() { }")
	// A name that no source has is a name, too.
	mustCheck(t, api.OK, 0, api.Func{At: 7})
	mustCheck(t, api.ErrTwice, 8, api.Func{At: 7}, api.Func{At: 8})
	mustCheck(t, api.OK, 0, api.Func{At: 7}, api.Func{Name: "\xff"}, api.Func{Name: "F"})
}

func TestParameters(t *testing.T) {
	mustFit(t, "fn f("+repeated(16, "a#: int", ", ")+") { }")
	mustRefuse(t, "fn g() { } @fn f("+repeated(17, "a#: int", ", ")+") { }", api.ErrTooMany)
	mustRefuse(t, "fn g() { } @fn f(a: int, a: int) { }", api.ErrTwice)
	mustRefuse(t, "fn g() { } @fn f(a: int, b: int, a: bytes) { }", api.ErrTwice)
	mustFit(t, "fn f(a: int) { } fn g(a: bytes) { }")
	for _, bad := range []api.Type{api.TypeNone, -1, 4, 100, -1 << 63, 1<<63 - 1} {
		mustRefuseChanged(t, "fn g() { } @fn f(a: int, b: int) { }", api.ErrType, func(f []api.Func) { f[1].Params[0].Type = bad })
		mustRefuseChanged(t, "fn g() { } @fn f(a: int, b: int) { }", api.ErrType, func(f []api.Func) { f[1].Params[1].Type = bad })
		// Each parameter is checked ahead of the next one, its name ahead of its type.
		mustRefuseChanged(t, "fn g() { } @fn f(a: int, b: int, a: int) { }", api.ErrType, func(f []api.Func) { f[1].Params[1].Type = bad })
		mustRefuseChanged(t, "fn g() { } @fn f(a: int, a: int, b: int) { }", api.ErrTwice, func(f []api.Func) { f[1].Params[2].Type = bad })
		mustRefuseChanged(t, "fn g() { } @fn f(a: int, a: int) { }", api.ErrTwice, func(f []api.Func) { f[1].Params[1].Type = bad })
		mustRefuseChanged(t, "fn g() { } @fn f(a: int, a: int) { }", api.ErrType, func(f []api.Func) { f[1].Params[0].Type = bad })
	}
	// All of them are checked ahead of their number.
	mustRefuse(t, "@fn f("+repeated(17, "a#: int", ", ")+", a0: int) { }", api.ErrTwice)
	mustRefuseChanged(t, "@fn f("+repeated(17, "a#: int", ", ")+") { }", api.ErrType, func(f []api.Func) { f[0].Params[16].Type = api.TypeNone })
}

func TestResults(t *testing.T) {
	for _, bad := range []api.Type{-1, 4, 100, -1 << 63, 1<<63 - 1} {
		mustRefuseChanged(t, "fn g() { } @fn f() { x = 1; }", api.ErrType, func(f []api.Func) { f[1].Result = bad })
		// Parameters are checked ahead of it, their number behind it.
		mustRefuseChanged(t, "@fn f(a: int, a: int) { }", api.ErrTwice, func(f []api.Func) { f[0].Result = bad })
		mustRefuseChanged(t, "@fn f("+repeated(17, "a#: int", ", ")+") { }", api.ErrType, func(f []api.Func) { f[0].Result = bad })
	}
}

func TestManyNames(t *testing.T) {
	lets := func(n int) string { return repeated(n, "let x# = 1;", " ") }
	fors := func(n int) string { return repeated(n, "for i# = 0 to 1 { }", " ") }
	nested := func(n int) string {
		return repeated(n, "for k# = 0 to 1 {", " ") + strings.Repeat(" }", n)
	}
	params := repeated(16, "p#: int", ", ")
	for body, n := range map[string]int{
		lets(64):                        64,
		lets(65):                        65,
		fors(64):                        64,
		fors(65):                        65,
		lets(20) + fors(20) + nested(4): 44,
		lets(20) + fors(24) + nested(4): 48,
		lets(20) + fors(25) + nested(4): 49,
		lets(30) + fors(30) + nested(4): 64,
		lets(31) + fors(30) + nested(4): 65,
		"if true { " + lets(30) + " } else { " + lets(34) + " }": 64,
		"if true { " + lets(30) + " } else { " + lets(35) + " }": 65,
		"for i = 0 to 1 { " + lets(63) + " }":                    64,
		"for i = 0 to 1 { " + lets(64) + " }":                    65,
		// A name counts as often as it is declared.
		strings.Repeat("if true { let x = 1; } ", 64): 64,
		strings.Repeat("if true { let x = 1; } ", 65): 65,
		strings.Repeat("for i = 0 to 1 { } ", 64):     64,
		strings.Repeat("for i = 0 to 1 { } ", 65):     65,
		// What is only set, and other statements, do not count.
		lets(64) + strings.Repeat(" x1 = 2;", 70) + strings.Repeat(" g();", 70): 64,
	} {
		verdict := func(head string, n int) {
			t.Helper()
			src := "fn f(" + head + ") { " + body + " } fn g() { }"
			if n > 64 {
				mustRefuse(t, "@"+src, api.ErrTooMany)
			} else {
				mustFit(t, src)
			}
		}
		verdict("", n)
		verdict("p0: int", n+1)
		verdict(params, n+16)
	}
	// It is checked ahead of the body, and of its end.
	mustRefuse(t, "fn g() { } @fn f(): int { y = 1; "+lets(65)+" }", api.ErrTooMany)
	mustRefuse(t, "fn g() { } @fn f() { let x0 = 1; "+lets(64)+" }", api.ErrTooMany)
	mustRefuse(t, "fn f() { let x0 = 1; @"+lets(63)+" }", api.ErrTwice)
	// Each function has its own.
	mustFit(t, "fn f() { "+lets(64)+" } fn g() { "+lets(64)+" }")
}

func TestEnds(t *testing.T) {
	for _, body := range []string{
		"return 1;",
		"let x = 1; return x;",
		"return 1; return 2;",
		"if true { return 1; } return 2;",
		"if true { return 1; } else { return 2; }",
		"if true { } else { } if true { return 1; } else { return 2; }",
		"if true { if false { return 1; } else { return 2; } } else { return 3; }",
		"if true { return 3; } else { if false { return 1; } else { return 2; } }",
		"if true { return 3; } else { let x = 1; f(); return x; }",
		"for i = 0 to 3 { } return 1;",
	} {
		mustFit(t, "fn f(): int { "+body+" }")
	}
	for _, body := range []string{
		"",
		"let x = 1;",
		"return 1; f();",
		"return 1; if true { }",
		"if true { return 1; }",
		"if true { return 1; } else { }",
		"if true { } else { return 1; }",
		"if true { return 1; } else { f(); }",
		"if true { return 1; } else { return 1; f(); }",
		"if true { f(); } else { return 2; }",
		"if true { if false { return 1; } } else { return 3; }",
		"if true { return 3; } else { if false { return 1; } }",
		"if true { return 3; } else { if false { } else { return 1; } }",
		"for i = 0 to 3 { return 1; }",
		"if true { return 1; } else { for i = 0 to 3 { return 2; } }",
	} {
		mustRefuse(t, "fn g() { } @fn f(): int { "+body+" }", api.ErrEnds)
		// It is checked behind the body, ahead of the next function.
		mustRefuse(t, "fn f(): int { if true { @x = 1; } "+body+" }", api.ErrName)
		mustRefuse(t, "@fn f(): int { "+body+" } fn g() { x = 1; }", api.ErrEnds)
		// Without a Result nothing need end.
		mustFit(t, "fn f() { "+strings.NewReplacer("return 1", "return", "return 2", "return", "return 3", "return").Replace(body)+" }")
	}
	for _, result := range []string{"int", "bool", "bytes"} {
		mustRefuse(t, "@fn f(): "+result+" { }", api.ErrEnds)
	}
}

// ofType has an expression of each type.
var ofType = map[string]string{"none": "n()", "int": "1", "bool": "true", "bytes": `"a"`}

// helpers are functions that the sources of tests call; they stand behind everything else.
const helpers = " fn n() { } fn i(a: int): int { return a; } fn b(a: bool): bool { return a; } fn t(a: bytes): bytes { return a; } fn all(a: int, b: bool, c: bytes) { }"

// mustHaveType fails unless an expression has this type, by what a return of each type says of it.
func mustHaveType(t *testing.T, expr, want string) {
	t.Helper()
	for _, result := range []string{"int", "bool", "bytes"} {
		src := "fn f(): " + result + " { return " + expr + "; }" + helpers
		p := parsed(t, src)
		e, at := Check(p)
		if result == want && (e != api.OK || at != 0) {
			t.Errorf("%q = %v, %d", src, e, at)
		}
		if where := p.Funcs[0].Body[0].Exprs[0].At; result != want && (e != api.ErrType || at != where) {
			t.Errorf("%q = %v, %d; want ErrType, %d", src, e, at, where)
		}
	}
}

// signs has what each sign between two operands takes, left and right, and what it makes of it.
var signs = map[string][]string{
	"+":  {"int int int", "bytes bytes bytes"},
	"-":  {"int int int"},
	"*":  {"int int int"},
	"/":  {"int int int"},
	"%":  {"int int int"},
	"==": {"int int bool", "bool bool bool", "bytes bytes bool"},
	"!=": {"int int bool", "bool bool bool", "bytes bytes bool"},
	"<":  {"int int bool"},
	"<=": {"int int bool"},
	">":  {"int int bool"},
	">=": {"int int bool"},
	"&&": {"bool bool bool"},
	"||": {"bool bool bool"},
}

func TestTwo(t *testing.T) {
	for sign, rows := range signs {
		for left := range ofType {
			for right := range ofType {
				checkTwo(t, sign, rows, left, right)
			}
		}
	}
}

func checkTwo(t *testing.T, sign string, rows []string, left, right string) {
	t.Helper()
	leftFits, rightFits := false, false
	for _, row := range rows {
		f := strings.Fields(row)
		if f[0] == left && f[1] == right {
			mustHaveType(t, ofType[left]+" "+sign+" "+ofType[right], f[2])
			return
		}
		leftFits = leftFits || f[0] == left
		rightFits = rightFits || f[1] == right
	}
	a, s, b := ofType[left], sign, ofType[right]
	switch {
	case !leftFits:
		a = "@" + a
	case !rightFits:
		b = "@" + b
	default:
		s = "@" + s
	}
	mustRefuse(t, "fn f() { let x = "+a+" "+s+" "+b+"; }"+helpers, api.ErrType)
}

func TestOne(t *testing.T) {
	for form, row := range map[string]string{"-E": "int int", "!E": "bool bool", "get(E)": "bytes bytes", "has(E)": "bytes bool", "len(E)": "bytes int"} {
		takes, gives, _ := strings.Cut(row, " ")
		for kind, expr := range ofType {
			if kind == takes {
				mustHaveType(t, strings.Replace(form, "E", expr, 1), gives)
			} else {
				mustRefuse(t, "fn f() { let x = "+strings.Replace(form, "E", "@"+expr, 1)+"; }"+helpers, api.ErrType)
			}
		}
	}
}

func TestLeaves(t *testing.T) {
	mustHaveType(t, "0", "int")
	mustHaveType(t, "9223372036854775807", "int")
	mustHaveType(t, "true", "bool")
	mustHaveType(t, "false", "bool")
	mustHaveType(t, `""`, "bytes")
	mustHaveType(t, `"1"`, "bytes")
	mustHaveType(t, "i(1)", "int")
	mustHaveType(t, "b(true)", "bool")
	mustHaveType(t, `t("")`, "bytes")
	mustHaveType(t, `len(get("a") + "b") * 2 < 3 && !has("c") == true`, "bool")
	for _, kind := range []string{"int", "bool", "bytes"} {
		mustFit(t, "fn f(x: "+kind+"): "+kind+" { return x; }")
		mustFit(t, "fn f(): "+kind+" { let x = "+ofType[kind]+"; return x; }")
		mustFit(t, "fn f(): "+kind+" { let x = "+ofType[kind]+"; let y = x; return y; }")
	}
	for _, kind := range []string{"bool", "bytes"} {
		mustRefuse(t, "fn f(): "+kind+" { for i = 0 to 3 { return @i; } return "+ofType[kind]+"; }", api.ErrType)
	}
	mustFit(t, "fn f(): int { for i = 0 to 3 { return i; } return 1; }")
}

// The first Kid is checked, then its type, then the second one.
func TestOrderInExpressions(t *testing.T) {
	for sign := range signs {
		mustRefuse(t, "fn f() { let x = @n() "+sign+" y; }"+helpers, api.ErrType)
		mustRefuse(t, "fn f() { let x = @y "+sign+" n(); }"+helpers, api.ErrName)
		mustRefuse(t, "fn f() { let x = @z "+sign+" y; }"+helpers, api.ErrName)
	}
	mustRefuse(t, "fn f() { let x = 1 + @y; }", api.ErrName)
	mustRefuse(t, `fn f() { let x = 1 @+ "a"; }`, api.ErrType)
	mustRefuse(t, `fn f() { let x = "a" @+ 1; }`, api.ErrType)
	mustRefuse(t, `fn f() { let x = ("a" @+ 1) + y; }`, api.ErrType)
	mustRefuse(t, `fn f() { let x = 1 + 2 @== "a" + "b"; }`, api.ErrType)
	mustRefuse(t, "fn f() { let x = 1 + 2 + @true == 3; }", api.ErrType)
	mustRefuse(t, "fn f() { let x = @!(1 < 2) + 3; }", api.ErrType)
	mustRefuse(t, "fn f() { let x = -(1 @== 2); }", api.ErrType)
	mustRefuse(t, "fn f() { let x = len(-@true); }", api.ErrType)
	mustRefuse(t, "fn f() { let x = len(@-1); }", api.ErrType)
	mustRefuse(t, "fn f() { let x = get(@has(\"\")); }", api.ErrType)
	mustRefuse(t, "fn f() { let x = -@y; }", api.ErrName)
	mustRefuse(t, "fn f() { let x = has(@y); }", api.ErrName)
}

func TestCalls(t *testing.T) {
	mustFit(t, `fn f() { all(1, true, "a"); n(); i(1); b(true); t(""); let x = i(i(1)); }`+helpers)
	// A function that is not there.
	mustRefuse(t, "fn f() { @g(); }", api.ErrName)
	mustRefuse(t, "fn f() { let x = @g(); }", api.ErrName)
	mustRefuse(t, "fn f() { let g = 1; @g(); }", api.ErrName)
	mustRefuse(t, "fn f(g: int) { let x = 1 + @g(g); }", api.ErrName)
	mustRefuse(t, "fn f() { @g(x, 1 + true, h()); }", api.ErrName)
	// The number of Kids.
	mustRefuse(t, "fn f() { @f(1); }", api.ErrType)
	mustRefuse(t, "fn f() { @i(); }"+helpers, api.ErrType)
	mustRefuse(t, "fn f() { @i(1, 2); }"+helpers, api.ErrType)
	mustRefuse(t, "fn f() { @all(1, true); }"+helpers, api.ErrType)
	mustRefuse(t, `fn f() { @all(1, true, "", 1); }`+helpers, api.ErrType)
	mustRefuse(t, "fn f() { @i(x, y); }"+helpers, api.ErrType)
	mustRefuse(t, "fn f() { @all(x, n()); }"+helpers, api.ErrType)
	mustRefuse(t, "fn f() { let x = 1 + @i(); }"+helpers, api.ErrType)
	// The type of each Kid, ahead of the next one.
	for name, takes := range map[string]string{"i": "int", "b": "bool", "t": "bytes"} {
		for kind, expr := range ofType {
			if kind != takes {
				mustRefuse(t, "fn f() { "+name+"(@"+expr+"); }"+helpers, api.ErrType)
			}
		}
	}
	mustRefuse(t, "fn f() { all(@true, x, 1); }"+helpers, api.ErrType)
	mustRefuse(t, "fn f() { all(1, @2, x); }"+helpers, api.ErrType)
	mustRefuse(t, "fn f() { all(1, true, @3); }"+helpers, api.ErrType)
	mustRefuse(t, "fn f() { all(@x, 2, 3); }"+helpers, api.ErrName)
	mustRefuse(t, "fn f() { all(1, @x, 3); }"+helpers, api.ErrName)
	mustRefuse(t, "fn f() { all(1, true, @x); }"+helpers, api.ErrName)
	mustRefuse(t, "fn f() { i(i(@true)); }"+helpers, api.ErrType)
	mustRefuse(t, "fn f() { i(@g(x)); }"+helpers, api.ErrName)
	// What a call has is the Result, also of a function that calls itself.
	mustFit(t, "fn f(a: int): int { return f(f(a) + 1); }")
	mustRefuse(t, "fn f(a: bool): int { return f(@f(a)); }", api.ErrType)
}

func TestScopes(t *testing.T) {
	for _, body := range []string{
		"if true { let x = 1; } let x = 2; x = 3;",
		"if true { let x = 1; x = 2; } else { let x = true; x = false; } let x = \"\"; x = \"a\";",
		"for x = 0 to 1 { } let x = true; x = false;",
		"for x = 0 to 1 { } for x = 0 to 1 { } if true { for x = 0 to 1 { } }",
		"for i = 0 to 1 { let x = 1; } for i = 0 to 1 { let x = true; }",
		"let x = 1; if true { x = 2; for i = x to x + 1 { x = i; } } else { x = 3; }",
		"if true { let y = p; if p == y { y = 2; let z = y; p = z; } let z = true; }",
		"for i = 0 to 3 { for j = i to 3 { p = i + j; } }",
		"let x = 1; if x == 1 { let y = true; x = 2; } let y = x; p = y;",
	} {
		mustFit(t, "fn f(p: int) { "+body+" }")
		mustFit(t, "fn f(p: int) { if true { "+body+" } else { "+body+" } "+body+" }")
	}
	for _, body := range []string{
		// Nowhere declared, only later, or by another function.
		"@x = 1;", "let y = @x;", "@x = 1; let x = 1;", "let y = @x; let x = 1;", "@q = 1;", "p = @q;", "p = @f;", "@f = 1;",
		// In itself.
		"let x = @x;", "let x = 1 + @x;", "for i = @i to 3 { }", "for i = 0 to @i { }",
		// Behind its block, and in the other one.
		"if true { let x = 1; } @x = 2;", "if true { let x = 1; } p = @x;", "if true { let x = 1; } else { @x = 2; }", "if true { } else { let x = 1; } @x = 2;",
		"for i = 0 to 3 { } p = @i;", "for i = 0 to 3 { } @i = 1;", "for i = 0 to 3 { let x = 1; } @x = 2;", "for i = 0 to 3 { let x = 1; } for i = @x to 3 { }",
		"if true { if true { let x = 1; } @x = 2; }", "if @x { let x = true; }", "for i = 0 to 3 { for j = 0 to 3 { } p = @j; }",
		"if true { let x = 1; } if true { @x = 1; }",
	} {
		mustRefuse(t, "fn f(p: int) { "+body+" } fn g(q: int) { }", api.ErrName)
	}
	for _, body := range []string{
		// In its block, in a block within it, and a parameter anew.
		"let x = 1; @let x = 2;", "let x = 1; @let x = true;", "@let p = 1;", "@for p = 0 to 1 { }", "let x = 1; @for x = 0 to 1 { }", "let x = 1; p = x; @let x = 2;",
		"let x = 1; if true { @let x = 2; }", "let x = 1; if true { } else { @let x = 2; }", "let x = 1; for i = 0 to 1 { @let x = 2; }", "if true { @let p = 2; }",
		"for i = 0 to 1 { @let i = 2; }", "for i = 0 to 1 { @for i = 0 to 1 { } }", "for i = 0 to 1 { if true { @let i = 2; } }", "for i = 0 to 1 { @let p = 2; }",
		"let x = 1; if true { if true { @let x = 2; } }", "if true { let x = 1; if true { @let x = 1; } }", "for i = 0 to 1 { for j = 0 to 1 { @for i = 0 to 1 { } } }",
		"if true { let x = 1; } let x = 1; @let x = 1;",
	} {
		mustRefuse(t, "fn f(p: int) { "+body+" }", api.ErrTwice)
	}
}

func TestLet(t *testing.T) {
	mustRefuse(t, "fn f() { let x = @n(); }"+helpers, api.ErrType)
	mustRefuse(t, "fn f() { let x = @f(); }", api.ErrType)
	// The expression, its type, the name.
	mustRefuse(t, "fn f(x: int) { let x = @y; }", api.ErrName)
	mustRefuse(t, "fn f(x: int) { let x = @f(1); }", api.ErrType)
	mustRefuse(t, "fn f(x: int) { @let x = x; }", api.ErrTwice)
	// It gets this type.
	mustRefuse(t, "fn f() { let x = 1; x = @true; }", api.ErrType)
	mustRefuse(t, `fn f() { let x = ""; x = @1; }`, api.ErrType)
	mustRefuse(t, "fn f() { let x = 1 == 1; x = @1; }", api.ErrType)
}

func TestSet(t *testing.T) {
	for kind, expr := range ofType {
		for _, want := range []string{"int", "bool", "bytes"} {
			if kind == want {
				mustFit(t, "fn f(x: "+want+") { x = "+expr+"; }"+helpers)
				mustFit(t, "fn f() { let x = "+ofType[want]+"; x = "+expr+"; }"+helpers)
			} else {
				mustRefuse(t, "fn f(x: "+want+") { x = @"+expr+"; }"+helpers, api.ErrType)
				mustRefuse(t, "fn f() { let x = "+ofType[want]+"; x = @"+expr+"; }"+helpers, api.ErrType)
			}
		}
	}
	mustRefuse(t, "fn f() { for i = 0 to 3 { @i = 1; } }", api.ErrType)
	mustRefuse(t, "fn f() { for i = 0 to 3 { if true { for j = 0 to 3 { @i = 1; } } } }", api.ErrType)
	mustFit(t, "fn f() { for i = 0 to 3 { } let i = 1; i = 2; }")
	// The name ahead of the expression.
	mustRefuse(t, "fn f() { @x = y; }", api.ErrName)
	mustRefuse(t, "fn f() { @x = 1 + true; }", api.ErrName)
	mustRefuse(t, "fn f() { for i = 0 to 3 { @i = y; } }", api.ErrType)
	mustRefuse(t, "fn f(x: int) { x = @y; }", api.ErrName)
	mustRefuse(t, "fn f(x: int) { x = @true + y; }", api.ErrType)
}

func TestOperandsOfStatements(t *testing.T) {
	for kind, expr := range ofType {
		for form, takes := range map[string]string{
			"if E { }":           "bool",
			"for k = E to 1 { }": "int",
			"for k = 0 to E { }": "int",
			`put(E, "");`:        "bytes",
			`put("", E);`:        "bytes",
			"del(E);":            "bytes",
		} {
			if kind == takes {
				mustFit(t, "fn f() { "+strings.Replace(form, "E", expr, 1)+" }"+helpers)
			} else {
				mustRefuse(t, "fn f() { "+strings.Replace(form, "E", "@"+expr, 1)+" }"+helpers, api.ErrType)
			}
		}
	}
	for _, form := range []string{"if E { }", "for k = E to 1 { }", "for k = 0 to E { }", `put(E, "");`, `put("", E);`, "del(E);", "return E;", "E;"} {
		mustRefuse(t, "fn f() { "+strings.Replace(form, "E", "@x", 1)+" }", api.ErrName)
	}
	// Each expression and its type ahead of the next one.
	mustRefuse(t, "fn f() { put(@1, x); }", api.ErrType)
	mustRefuse(t, "fn f() { put(@x, 1); }", api.ErrName)
	mustRefuse(t, `fn f() { put("", @x); }`, api.ErrName)
	mustRefuse(t, "fn f() { for k = @true to x { } }", api.ErrType)
	mustRefuse(t, "fn f() { for k = @x to true { } }", api.ErrName)
	mustRefuse(t, "fn f(k: int) { for k = 0 to @true { } }", api.ErrType)
	mustRefuse(t, "fn f(k: int) { for k = 0 to @x { } }", api.ErrName)
	mustRefuse(t, "fn f(k: int) { @for k = 0 to 1 { x = 1; } }", api.ErrTwice)
	mustRefuse(t, "fn f() { if @1 { x = 1; } }", api.ErrType)
	mustRefuse(t, "fn f() { if true { @x = 1; } else { y; } }", api.ErrName)
	mustRefuse(t, "fn f() { if true { } else { @x = 1; } }", api.ErrName)
	mustRefuse(t, "fn f() { for k = 0 to 1 { @x = 1; } }", api.ErrName)
	mustRefuse(t, "fn f() { if true { let y = 1 + @true; } }", api.ErrType)
}

func TestReturn(t *testing.T) {
	for kind, expr := range ofType {
		for _, result := range []string{"int", "bool", "bytes"} {
			if kind == result {
				mustFit(t, "fn f(): "+result+" { return "+expr+"; }"+helpers)
			} else {
				mustRefuse(t, "fn f(): "+result+" { return @"+expr+"; }"+helpers, api.ErrType)
			}
			mustRefuse(t, "fn f(): "+result+" { @return; }", api.ErrType)
			mustRefuse(t, "fn f(): "+result+" { if true { @return; } return "+ofType[result]+"; }", api.ErrType)
		}
		// Without a Result there is no expression, also not one of type none.
		mustRefuse(t, "fn f() { return @"+expr+"; }"+helpers, api.ErrType)
	}
	mustFit(t, "fn f() { if true { return; } return; }")
	mustRefuse(t, "fn f() { return @f(); }", api.ErrType)
	// The expression ahead of its type.
	mustRefuse(t, "fn f() { return @x; }", api.ErrName)
	mustRefuse(t, "fn f() { return 1 + @true; }", api.ErrType)
	mustRefuse(t, "fn f(): bool { return 1 + @true; }", api.ErrType)
	mustRefuse(t, "fn f(): bool { return 1 @+ 2; }", api.ErrType)
	// What stands behind it is checked, too.
	mustRefuse(t, "fn f() { return; @x = 1; }", api.ErrName)
	mustRefuse(t, "fn f(): int { return 1; @return; }", api.ErrType)
}

func TestDo(t *testing.T) {
	mustFit(t, `fn f() { n(); i(1); b(true); t("a"); (n()); }`+helpers)
	for _, expr := range []string{"1", "true", `"a"`, "p", "@get(\"\")", "@has(\"\")", "@len(\"\")", "@-1", "@!true", "1 @+ 2", "i(1) @+ i(2)", "1 @== 2", "@-i(1)", "true @&& b(true)"} {
		if !strings.Contains(expr, "@") {
			expr = "@" + expr
		}
		mustRefuse(t, "fn f(p: int) { "+expr+"; }"+helpers, api.ErrType)
	}
	// The expression is checked first.
	mustRefuse(t, "fn f() { @x; }", api.ErrName)
	mustRefuse(t, "fn f() { 1 + @x; }", api.ErrName)
	mustRefuse(t, "fn f() { 1 + @true; }", api.ErrType)
	mustRefuse(t, "fn f() { get(@1); }", api.ErrType)
	mustRefuse(t, "fn f() { -@g(); }", api.ErrName)
}

// Of two errors the one that stands first counts.
func TestFirstError(t *testing.T) {
	mustRefuse(t, "fn f() { @x = 1; let y = 1 + true; }", api.ErrName)
	mustRefuse(t, "fn f() { let y = 1 + @true; x = 1; }", api.ErrType)
	mustRefuse(t, "fn f() { @x = 1; } fn g(a: int, a: int) { }", api.ErrName)
	mustRefuse(t, "fn f() { } @fn g(a: int, a: int) { x = 1; } fn h(): int { }", api.ErrTwice)
	mustRefuse(t, "fn f() { if true { for i = 0 to 3 { @x = 1; } } y = 1; }", api.ErrName)
}

// A call of a function behind it is checked by what that function says, whether or not it is right.
func TestCallsOfWrongFunctions(t *testing.T) {
	for _, bad := range []api.Type{-1, 4} {
		mustRefuseChanged(t, "fn f() { let x = g(1); x = g(1); if g(1) == x { } } @fn g(a: int): int { return 1; }", api.ErrType, func(f []api.Func) { f[1].Result = bad })
		mustRefuseChanged(t, "fn f() { g(@1); } fn g(a: int): int { return 1; }", api.ErrType, func(f []api.Func) { f[1].Params[0].Type = bad })
		mustRefuseChanged(t, "fn f() { let x = @g(1) + 1; } fn g(a: int): int { return 1; }", api.ErrType, func(f []api.Func) { f[1].Result = bad })
		mustRefuseChanged(t, "fn f() { let x = g(1) @== 1; } fn g(a: int): int { return 1; }", api.ErrType, func(f []api.Func) { f[1].Result = bad })
	}
	mustRefuseChanged(t, "fn f() { g(f()); } @fn g(a: int) { }", api.ErrType, func(f []api.Func) { f[1].Params[0].Type = api.TypeNone })
	mustRefuseChanged(t, "fn f() { g(@1); } fn g(a: int) { }", api.ErrType, func(f []api.Func) { f[1].Params[0].Type = api.TypeNone })
	mustRefuse(t, "fn f() { g(1, @true); } fn g(a: int, a: int) { }", api.ErrType)
	mustRefuse(t, "fn f() { g(1, 2); } @fn g(a: int, a: int) { }", api.ErrTwice)
}

// partsOf has a valid statement of each kind, and how many expressions and blocks it may have.
var partsOf = []struct {
	stmt       string
	exprs      []int
	body, also bool
}{
	{"let x = 1;", []int{1}, false, false},
	{"p = 1;", []int{1}, false, false},
	{"if true { }", []int{1}, true, true},
	{"for i = 0 to 1 { }", []int{2}, true, false},
	{"return;", []int{0, 1}, false, false},
	{`put("", "");`, []int{2}, false, false},
	{`del("");`, []int{1}, false, false},
	{"f(1);", []int{1}, false, false},
}

func TestPartsOfStatements(t *testing.T) {
	bad := api.Expr{Op: api.ExprName, Text: "nowhere", At: 1000}
	for _, c := range partsOf {
		src := "fn f(p: int) { @" + c.stmt + " }"
		mustFit(t, strings.Replace(src, "@", "", 1))
		for n := range 5 {
			if n == c.exprs[0] || n == c.exprs[len(c.exprs)-1] {
				continue
			}
			mustRefuseChanged(t, src, api.ErrType, func(f []api.Func) {
				s := &f[0].Body[0]
				for len(s.Exprs) < n {
					s.Exprs = append(s.Exprs, api.Expr{Op: api.ExprText, At: 1000})
				}
				s.Exprs = s.Exprs[:n]
			})
			// Ahead of what is wrong in its parts, and of its name.
			mustRefuseChanged(t, src, api.ErrType, func(f []api.Func) {
				f[0].Body[0].Exprs = []api.Expr{bad, bad, bad, bad}[:n]
				f[0].Body[0].Text = "p"
			})
		}
		block := []api.Stmt{{Op: api.StmtReturn, At: 1000}}
		for _, l := range [][]api.Stmt{block, {{At: 1000}}} {
			if !c.body {
				mustRefuseChanged(t, src, api.ErrType, func(f []api.Func) { f[0].Body[0].Body = l })
			}
			if !c.also {
				mustRefuseChanged(t, src, api.ErrType, func(f []api.Func) { f[0].Body[0].Else = l })
			}
		}
		checkEmptyParts(t, strings.Replace(src, "@", "", 1))
	}
	// A set without an expression is no set, whatever its name is.
	mustRefuseChanged(t, "fn f() { @x = 1; }", api.ErrType, func(f []api.Func) { f[0].Body[0].Exprs = nil })
	mustRefuseChanged(t, "fn f(x: int) { @for x = 1 to 2 { } }", api.ErrType, func(f []api.Func) { f[0].Body[0].Exprs = nil })
	// It counts as a return, but is checked ahead of the end.
	mustRefuseChanged(t, "fn f(): int { @return 1; }", api.ErrType, func(f []api.Func) { f[0].Body[0].Body = []api.Stmt{{Op: api.StmtReturn}} })
}

// checkEmptyParts fails unless lists that are empty, but not nil, are as good as nil ones.
func checkEmptyParts(t *testing.T, src string) {
	t.Helper()
	p := parsed(t, src)
	s := &p.Funcs[0].Body[0]
	if s.Body == nil {
		s.Body = []api.Stmt{}
	}
	if s.Else == nil {
		s.Else = []api.Stmt{}
	}
	if s.Exprs == nil {
		s.Exprs = []api.Expr{}
	}
	for i := range s.Exprs {
		if s.Exprs[i].Kids == nil {
			s.Exprs[i].Kids = []api.Expr{}
		}
	}
	mustCheck(t, api.OK, 0, p.Funcs...)
}

func TestPartsOfExpressions(t *testing.T) {
	for _, c := range []struct {
		expr string
		kids int
	}{
		{"@1", 0}, {"@true", 0}, {`@"a"`, 0}, {"@p", 0}, {"@nowhere", 0},
		{"1 @+ 1", 2}, {"true @&& true", 2}, {"1 @== 1", 2}, {"1 @+ nowhere", 2},
		{"@-1", 1}, {"@!true", 1}, {`@get("")`, 1}, {`@has("")`, 1}, {`@len("")`, 1}, {"@len(nowhere)", 1},
	} {
		for n := range 5 {
			if n == c.kids {
				continue
			}
			change := func(e *api.Expr) {
				for len(e.Kids) < n {
					e.Kids = append(e.Kids, api.Expr{Op: api.ExprNum, At: 1000})
				}
				e.Kids = e.Kids[:n]
			}
			mustRefuseChanged(t, "fn f(p: int) { let x = "+c.expr+"; }", api.ErrType, func(f []api.Func) { change(&f[0].Body[0].Exprs[0]) })
			mustRefuseChanged(t, "fn f(p: int) { let x = 1 == ("+c.expr+"); }", api.ErrType, func(f []api.Func) { change(&f[0].Body[0].Exprs[0].Kids[1]) })
			mustRefuseChanged(t, "fn f(p: int) { f("+c.expr+"); }", api.ErrType, func(f []api.Func) { change(&f[0].Body[0].Exprs[0].Kids[0]) })
		}
	}
}

func TestUnknownKinds(t *testing.T) {
	for _, op := range []int{0, -1, 9, 100, -1 << 63, 1<<63 - 1} {
		for _, c := range partsOf {
			mustRefuseChanged(t, "fn f(p: int) { @"+c.stmt+" }", api.ErrType, func(f []api.Func) { f[0].Body[0].Op = api.StmtOp(op) })
			mustRefuseChanged(t, "fn f(p: int) { if true { @"+c.stmt+" } }", api.ErrType, func(f []api.Func) { f[0].Body[0].Body[0].Op = api.StmtOp(op) })
		}
		mustRefuseChanged(t, "fn f(): int { @return 1; }", api.ErrType, func(f []api.Func) { f[0].Body[0].Op = api.StmtOp(op) })
		mustRefuseChanged(t, "fn f() { @del(x); }", api.ErrType, func(f []api.Func) { f[0].Body[0].Op = api.StmtOp(op) })
	}
	for _, op := range []int{0, -1, 11, 100, -1 << 63, 1<<63 - 1} {
		for _, expr := range []string{"@1", "@true", `@"a"`, "@p", "@f(1)", "1 @+ 1", "@-1", `@get("")`, "@-x"} {
			mustRefuseChanged(t, "fn f(p: int) { let y = "+expr+"; }", api.ErrType, func(f []api.Func) { f[0].Body[0].Exprs[0].Op = api.ExprOp(op) })
			mustRefuseChanged(t, "fn f(p: int) { return "+expr+"; }", api.ErrType, func(f []api.Func) { f[0].Body[0].Exprs[0].Op = api.ExprOp(op) })
			mustRefuseChanged(t, "fn f(p: int) { f("+expr+"); }", api.ErrType, func(f []api.Func) { f[0].Body[0].Exprs[0].Kids[0].Op = api.ExprOp(op) })
		}
	}
}

func TestOtherSigns(t *testing.T) {
	for _, sign := range []string{"", "=", "!", "(", ",", "&", "|", "++", "===", "<>", "and", "+ ", " +", "\x00", "if"} {
		for _, expr := range []string{"1 @+ 1", "true @== true", `"a" @+ "a"`, "true @|| false", "x @+ y"} {
			mustRefuseChanged(t, "fn f() { let z = "+expr+"; }", api.ErrType, func(f []api.Func) { f[0].Body[0].Exprs[0].Text = sign })
		}
	}
	for _, sign := range []string{"", "+", "--", "!!", "-!", "*", "==", "&&", "get", "- "} {
		for _, expr := range []string{"@-1", "@!true", `@-x`} {
			mustRefuseChanged(t, "fn f() { let z = "+expr+"; }", api.ErrType, func(f []api.Func) { f[0].Body[0].Exprs[0].Text = sign })
		}
	}
}

// The other fields of a kind say nothing of whether it is valid.
func TestOtherFields(t *testing.T) {
	p := parsed(t, `fn f() { let x = 1; if true { del("a"); } put(get("a"), "b"); }`)
	body := p.Funcs[0].Body
	body[0].Exprs[0].Num, body[0].Exprs[0].Text = -5, "+"
	body[1].Text, body[1].Exprs[0].Num = "x", 7
	body[2].Text, body[2].Exprs[0].Text = "nowhere", "x"
	mustCheck(t, api.OK, 0, p.Funcs...)
}

func TestFront(t *testing.T) {
	for _, c := range []struct {
		src   string
		want  api.Errno
		where int
	}{
		{"fn f( { }", api.ErrSyntax, 6},
		{"fn f() { 1 }", api.ErrSyntax, 11},
		{"fn f() { $", api.ErrToken, 9},
		{"fn f() { x = 9223372036854775808; }", api.ErrLong, 13},
		{"fn f() { x = " + strings.Repeat("-", 40), api.ErrDeep, 44},
		{strings.Repeat(" ", api.MaxSource+1), api.ErrTooMany, 0},
		// What Parse finds comes first.
		{"fn f() { x = 1; } fn f() { } 1", api.ErrSyntax, 29},
		{" fn f() { x = 1; }", api.ErrName, 10},
		{" fn f(): int { }", api.ErrEnds, 1},
	} {
		if p, e, at := Front([]byte(c.src)); p.Funcs != nil || e != c.want || at != c.where {
			t.Errorf("Front(%.100q) = %d functions, %v, %d; want none, %v, %d", c.src, len(p.Funcs), e, at, c.want, c.where)
		}
	}
	mustFit(t, "fn f(a: int): int { return a; }")
}

// The source is neither changed nor kept, and the bytes behind it are not looked at.
func TestSourceStays(t *testing.T) {
	src := []byte(`fn f(a: int): bytes { let x = "ab"; f(a); return x; }`)
	whole := append(bytes.Clone(src), " fn f() { }"...)
	before := bytes.Clone(whole)
	p, e, at := Front(whole[:len(src)])
	if e != api.OK || at != 0 || len(p.Funcs) != 1 || !bytes.Equal(whole, before) {
		t.Fatalf("Front: %v, %d, %d functions; the source after it is %q", e, at, len(p.Funcs), whole)
	}
	shown := syntax.Show(p)
	clear(whole)
	if syntax.Show(p) != shown {
		t.Errorf("the program keeps the source: %q, then %q", shown, syntax.Show(p))
	}
}

// nested is a function with statements and expressions that are within one another so many times.
func nested(levels int, inner api.Expr) api.Func {
	truth := []api.Expr{{Op: api.ExprBool, Num: 1}}
	s := api.Stmt{Op: api.StmtReturn, Exprs: []api.Expr{inner}}
	e := inner
	for i := range levels {
		switch i % 3 {
		case 0:
			s = api.Stmt{Op: api.StmtIf, Exprs: truth, Body: []api.Stmt{s}, Else: []api.Stmt{{Op: api.StmtReturn, Exprs: []api.Expr{inner}}}}
			e = api.Expr{Op: api.ExprOne, Text: "-", Kids: []api.Expr{e}}
		case 1:
			s = api.Stmt{Op: api.StmtIf, Exprs: truth, Body: []api.Stmt{{Op: api.StmtReturn, Exprs: []api.Expr{inner}}}, Else: []api.Stmt{s}}
			e = api.Expr{Op: api.ExprTwo, Text: "*", Kids: []api.Expr{e, {Op: api.ExprNum}}}
		case 2:
			e = api.Expr{Op: api.ExprCall, Text: "f", Kids: []api.Expr{{Op: api.ExprNum}, e}}
		}
	}
	let := api.Stmt{Op: api.StmtLet, Text: "x", Exprs: []api.Expr{e}}
	return api.Func{Name: "f", Params: []api.Param{{Name: "a", Type: api.TypeInt}, {Name: "b", Type: api.TypeInt}}, Result: api.TypeInt, Body: []api.Stmt{let, s}}
}

// What is nested far deeper than a parsed program is checked, too.
func TestDeep(t *testing.T) {
	const levels = 1 << 16
	mustDeep := func(want api.Errno, where int, f api.Func) {
		t.Helper()
		if e, at := Check(api.Program{Funcs: []api.Func{f}}); e != want || at != where {
			t.Errorf("%v, %d; want %v, %d", e, at, want, where)
		}
	}
	mustDeep(api.OK, 0, nested(levels, api.Expr{Op: api.ExprName, Text: "a", At: 5}))
	mustDeep(api.ErrName, 5, nested(levels, api.Expr{Op: api.ExprName, Text: "c", At: 5}))
	f := nested(levels, api.Expr{Op: api.ExprName, Text: "x", At: 5})
	f.Body = f.Body[1:]
	mustDeep(api.ErrName, 5, f)
}
