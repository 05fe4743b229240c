package eval

import (
	"strconv"
	"strings"
	"testing"

	"covenant/api"
	"covenant/journal"
)

// logs is functions that return what they are given, and tell it to the store.
const logs = `
	fn log(s: bytes) { put("log", get("log") + s); }
	fn n(s: bytes, x: int): int { log(s); return x; }
	fn b(s: bytes, x: bool): bool { log(s); return x; }
	fn s(s: bytes): bytes { log(s); return s; }
	fn add(x: int, y: int, z: int): int { log("+"); return x + y + z; }`

// P10.1.
func TestOrder(t *testing.T) {
	for body, order := range map[string]string{
		`let x = n("1", 1) + n("2", 2) * n("3", 3);`:                              "123",
		`let x = (n("1", 1) + n("2", 2)) * n("3", 3);`:                            "123",
		`let x = (n("1", 1) < n("2", 2)) == (n("3", 3) != n("4", 4));`:            "1234",
		`let x = s("1") + s("2") + s("3");`:                                       "123",
		`let x = add(n("1", 1), n("2", 2), n("3", 3));`:                           "123+",
		`add(add(n("1", 1), n("2", 2), 0), n("3", 3), add(1, n("4", 1), 1));`:     "12+34++",
		`let x = b("1", true) && b("2", true) && b("3", false) && b("4", true);`:  "123",
		`let x = b("1", false) || b("2", false) || b("3", true) || b("4", true);`: "123",
		`let x = b("1", false) && b("2", true) || b("3", true) && b("4", true);`:  "134",
		`put(s("1"), s("2"));`: "12",
		`del(s("1"));`:         "1",
		`let x = -n("1", 1) + len(s("2")) + len(get(s("3")));`:                            "123",
		`if has(s("1")) { log("2"); } else { log("3"); }`:                                 "13",
		`if !has(s("1")) { log("2"); } else { log("3"); }`:                                "12",
		`for i = n("1", 0) to n("2", 2) { log("3"); }`:                                    "1233",
		`for i = n("1", 2) to n("2", 2) { log("3"); }`:                                    "12",
		`for i = 0 to 2 { for k = n("1", 0) to n("2", i) { log("3"); } log("4"); }`:       "1241234",
		`let x = n("1", 1); x = x + n("2", 1); if x == 2 { log("3"); return; } log("4");`: "123",
		`log("1"); return; log("2");`:                                                     "1",
		`put("log", "x" + get("log")); log("1"); put("log", "y" + get("log"));`:           "yx1",
		`log("1"); del("log"); log("2");`:                                                 "2",
		`log("1"); if has("log") { log("2"); } del("log"); if has("log") { log("3"); }`:   "",
	} {
		j := journal.New(nil)
		o := Run(front(t, "fn f() { "+body+" }"+logs), "f", nil, j, api.MaxGas)
		if got, _ := j.Get([]byte("log")); o.Trap != api.TrapNone || string(got) != order {
			t.Errorf("%s: %s, done as %q; want %q", body, told(o), got, order)
		}
	}
}

// P10.1: of several things that would trap, the first one does.
func TestFirstTrap(t *testing.T) {
	const more = `
		fn long(): bytes { return "0123456789012345678901234567890123456789012345678901234567890123"; }
		fn longer(x: int): bytes { return long() + "4"; }
		fn zero(): int { return 1 / 0; }
		fn great(): int { return 9223372036854775807 + 1; }
		fn endless(): int { for i = 0 to 9223372036854775807 { } return 1; }
		fn deep(): int { return deep(); }
		fn fill(): int { for i = 0 to 99 { put(long() + get("k"), ""); put("k", ""); put("a", long() + long()); put("b", get("a") + get("a")); put("c", get("b")); put("d", get("b")); put("e", get("b")); put("f", get("b")); put("g", get("b")); put("h", get("b")); put("i", get("b")); } return 1; }`
	for body, want := range map[string]api.Trap{
		"let x = zero() + great();":                                     api.TrapDiv,
		"let x = great() + zero();":                                     api.TrapRange,
		"let x = (9223372036854775807 + 1) / 0;":                        api.TrapRange,
		"let x = 9223372036854775807 + (1 + 1 / 0);":                    api.TrapDiv,
		"let x = -(-9223372036854775807 - 1) + zero();":                 api.TrapRange,
		"let x = add(zero(), great());":                                 api.TrapDiv,
		"let x = add(1, great()) + zero();":                             api.TrapRange,
		"for i = zero() to great() { }":                                 api.TrapDiv,
		"for i = great() to zero() { }":                                 api.TrapRange,
		"for i = 0 to 1 { let x = great(); } let y = zero();":           api.TrapRange,
		"for i = 1 to 1 { let x = great(); } let y = zero();":           api.TrapDiv,
		"if zero() == 1 { let x = great(); }":                           api.TrapDiv,
		"if true { let x = great(); } else { let x = zero(); }":         api.TrapRange,
		"if false { let x = great(); } else { let x = zero(); }":        api.TrapDiv,
		"put(longer(zero()), longer(great()));":                         api.TrapDiv,
		"put(longer(1), longer(great()));":                              api.TrapRange,
		"put(longer(1), long()); let x = zero();":                       api.TrapSize,
		"put(long(), longer(1)); let x = zero();":                       api.TrapDiv,
		"let x = long(); x = x + x; x = x + x; x = x + longer(zero());": api.TrapDiv,
		"let x = long(); x = x + x; x = x + x; x = x + longer(1);":      api.TrapSize,
		"del(longer(1)); let x = zero();":                               api.TrapDiv,
		"let x = has(longer(1)) && has(get(longer(great())));":          api.TrapNone,
		"let x = has(longer(1)) || has(get(longer(great())));":          api.TrapRange,
		"let x = deep() + zero();":                                      api.TrapDepth,
		"let x = zero() + deep();":                                      api.TrapDiv,
		"let x = endless() + zero();":                                   api.TrapGas,
		"let x = zero() + endless();":                                   api.TrapDiv,
		"let x = fill() + zero();":                                      api.TrapQuota,
		"let x = zero() + fill();":                                      api.TrapDiv,
		"return; let x = zero();":                                       api.TrapNone,
	} {
		src := "fn f() { " + body + " } fn add(x: int, y: int): int { return x + y; }" + more
		if o := Run(front(t, src), "f", nil, journal.New(nil), api.MaxGas); o.Trap != want {
			t.Errorf("%s: %s; want trap %d", body, told(o), want)
		}
	}
}

// P10.1: which value a name has.
func TestNames(t *testing.T) {
	for body, want := range map[string]int64{
		"let x = 1; x = x + 1; x = x * 10; return x;":                                                             20,
		"let x = 1; if true { x = 2; } return x;":                                                                 2,
		"let x = 1; if true { let y = 5; x = y; } let y = 7; return x * 10 + y;":                                  57,
		"let x = 1; if false { } else { let y = 5; x = y; } return x;":                                            5,
		"if true { let y = 1; n = n + y; } if true { let y = 2; n = n + y; } return n;":                           8,
		"if true { let y = 1; if true { let z = 2; if true { y = z; n = 7; } z = 3; n = n + y + z; } } return n;": 12,
		"let x = 0; for i = 0 to 4 { let y = i; y = y * 2; x = x + y; } return x;":                                12,
		"let x = 0; for i = 0 to 2 { for k = 0 to 2 { x = x * 10 + i + k; } } return x;":                          112,
		"let x = 0; for i = 0 to 3 { x = x + i; } for i = 5 to 6 { x = x + i; } return x;":                        8,
		"let x = 0; for i = 0 to 2 { let i2 = i; for k = i2 to 2 { let i3 = k; x = x * 10 + i3; } } return x;":    11,
		"let m = 3; for i = 0 to m { m = 100; n = n + 1; } return n * 1000 + m;":                                  8100,
		"let m = 1; for i = m to m + 3 { m = m + i; } return m;":                                                  7,
		"n = 6; return n;":                             6,
		"let a = n; n = 9; return a;":                  5,
		"let f = 2; return g(f) * 10 + f;":             52,
		"let x = 1; let y = g(x); return x * 100 + y;": 103,
		"let b = 1 == 1; let s = \"ab\"; if b { s = s + s; b = false; } if !b { n = len(s); } return n;": 4,
	} {
		src := "fn f(n: int): int { " + body + " } fn g(n: int): int { let x = n; let f = n; x = x + f; n = 0; return x + 1; }"
		o := Run(front(t, src), "f", []api.Value{num(5)}, journal.New(nil), api.MaxGas)
		if !same(o, ends(num(want), o.Used)) {
			t.Errorf("%s: %s; want %d", body, told(o), want)
		}
	}
}

// P10.1: each run of a function has names of its own, also within another run of it.
func TestNamesOfRecursion(t *testing.T) {
	p := front(t, "fn f(n: int): int { let x = n; if n > 0 { let y = f(n - 1); x = x * 10 + y; } return x + n; }")
	want := int64(0)
	for n := range int64(16) {
		if n > 0 {
			want = n*10 + want + n
		}
		if o := Run(p, "f", []api.Value{num(n)}, journal.New(nil), api.MaxGas); !same(o, ends(num(want), o.Used)) {
			t.Errorf("f(%d): %s; want %d", n, told(o), want)
		}
	}
}

// P10.1: a return ends its function, from however deep within it, and no other function.
func TestReturn(t *testing.T) {
	mustBe(t, "fn f(): int { for i = 0 to 9 { if i == 2 { return i; } } return 7; }", ends(num(2), 3+3*(1+4)+2))
	mustBe(t, "fn f(): int { for i = 0 to 9 { for k = 0 to 9 { return k - 1; } return 8; } return 9; }", ends(num(-1), 3+1+3+1+4))
	mustBe(t, "fn f(): int { for i = 0 to 0 { return 8; } return 9; }", ends(num(9), 3+2))
	mustBe(t, "fn f(): int { if true { if false { return 1; } else { return 2; } } return 3; }", ends(num(2), 2+2+2))
	mustBe(t, "fn f(): int { if true { } else { return 1; } return 2; }", ends(num(2), 2+2))
	mustBe(t, "fn f(): int { return 1; return 2; }", ends(num(1), 2))
	mustBe(t, "fn f(): int { g(); return 2; } fn g(): int { return 1; }", ends(num(2), 2+2+2))
	mustBe(t, "fn f(): int { for i = 0 to 2 { g(); } return 2; } fn g() { return; }", ends(num(2), 3+2*(1+2+1)+2))
	mustBe(t, "fn f(): int { return g() + g(); } fn g(): int { if true { return 4; } return 5; }", ends(num(8), 2+2*(1+4)))
	mustBe(t, "fn f() { return; }", ends(api.Value{}, 1))
	mustBe(t, "fn f() { for i = 0 to 9 { if i == 2 { return; } } }", ends(api.Value{}, 3+3*(1+4)+1))
	mustBe(t, "fn f() { if true { return; } let x = 1 / 0; }", ends(api.Value{}, 3))
}

// P10.1: a function that ends without a return has a zero value, whatever came last in it.
func TestEndWithoutReturn(t *testing.T) {
	mustBe(t, "fn f() { }", ends(api.Value{}, 0))
	mustBe(t, "fn f() { let x = 7; }", ends(api.Value{}, 2))
	mustBe(t, "fn f() { g(); } fn g(): bytes { return \"a\"; }", ends(api.Value{}, 2+2))
	mustBe(t, "fn f() { if false { return; } }", ends(api.Value{}, 2))
	mustBe(t, "fn f(a: int) { for i = 0 to a { } }", ends(api.Value{}, 3+5), num(5))
}

// chain is a program of which f calls through so many functions, of which the last one does what a body says.
func chain(n int, last string) string {
	var b strings.Builder
	name := "f"
	for i := 1; i < n; i++ {
		next := "g" + strconv.Itoa(i)
		b.WriteString("fn " + name + "(): int { return " + next + "(); }")
		name = next
	}
	b.WriteString("fn " + name + "(): int { " + last + " } fn h(x: int): int { return x; } fn none() { }")
	return b.String()
}

// P10.1: sixteen functions within each other run, and seventeen do not, whatever their names.
func TestDepth(t *testing.T) {
	mustBe(t, chain(16, "return 7;"), ends(num(7), 15*2+2))
	mustBe(t, chain(17, "return 7;"), traps(api.TrapDepth, 16*2))
	mustBe(t, chain(15, "return h(7);"), ends(num(7), 14*2+3+2))
	mustBe(t, chain(16, "return h(7);"), traps(api.TrapDepth, 15*2+3))
	mustBe(t, chain(15, "none(); return 7;"), ends(num(7), 14*2+2+2))
	mustBe(t, chain(16, "none(); return 7;"), traps(api.TrapDepth, 15*2+2))
	const count = "fn f(n: int): int { if n == 0 { return 0; } return 1 + f(n - 1); }"
	mustBe(t, count, ends(num(15), 15*(4+3+1+3)+6), num(15))
	mustBe(t, count, traps(api.TrapDepth, 16*(4+3+1+3)), num(16))
	mustBe(t, count, traps(api.TrapDepth, 16*(4+3+1+3)), num(1<<62))
	mustBe(t, "fn f() { g(); } fn g() { f(); }", traps(api.TrapDepth, 32))
}

// P10.1: the Kids of a call come ahead of whether there is room for it, and need room for their own calls.
func TestDepthOfKids(t *testing.T) {
	mustBe(t, chain(16, "return h(1 / 0);"), traps(api.TrapDiv, 15*2+2+3))
	mustBe(t, chain(16, "return h(1 + h(1 / 0));"), traps(api.TrapDiv, 15*2+4+1+3))
	mustBe(t, chain(16, "return h(1 + 2);"), traps(api.TrapDepth, 15*2+2+3))
	mustBe(t, chain(15, "return h(h(h(7)));"), ends(num(7), 14*2+5+3*2))
	mustBe(t, chain(15, "return h(1 / 0);"), traps(api.TrapDiv, 14*2+2+3))
}

// P10.1: functions that ended are not within the next one.
func TestDepthOfMany(t *testing.T) {
	mustBe(t, "fn f() { for i = 0 to 100 { g(); } } fn g() { }", ends(api.Value{}, 3+100*3))
	mustBe(t, "fn f() { for i = 0 to 50 { g(); } } fn g() { for i = 0 to 9 { if true { return; } } }", ends(api.Value{}, 3+50*(3+3+1+2+1)))
	mustBe(t, "fn f(): int { return g(14) + g(14) + g(14); } fn g(n: int): int { if n > 0 { return g(n - 1) + 1; } return 0; }", ends(num(3*14), 3+3*(2+14*(4+3+3+1)+6)))
	mustBe(t, "fn f(): int { return g(14) + g(15); } fn g(n: int): int { if n > 0 { return g(n - 1); } return 0; }", traps(api.TrapDepth, 2+(2+14*(4+2+3)+6)+(2+15*(4+2+3))))
}

// P10.1: what no source says: numbers below 0, bools of other numbers, and names and texts that are too long for a source.
func TestProgramsWithoutSource(t *testing.T) {
	result := func(kind api.Type, e api.Expr) run {
		return run{prog: api.Program{Funcs: []api.Func{{Name: "f", Result: kind, Body: []api.Stmt{{Op: api.StmtReturn, Exprs: []api.Expr{e}}}}}}}
	}
	for _, n := range []int64{0, 1, 2, -1, 1 << 62, -1 << 63} {
		result(api.TypeInt, api.Expr{Op: api.ExprNum, Num: n}).mustDo(t, ends(num(n), 2), "")
		result(api.TypeBool, api.Expr{Op: api.ExprBool, Num: n}).mustDo(t, ends(truth(n == 1), 2), "")
	}
	for _, s := range []string{"", "\x00\xff", "é\n\"", long(65), long(256), long(257), long(1 << 20)} {
		e := api.Expr{Op: api.ExprText, Text: s, Num: 9}
		result(api.TypeBytes, e).mustDo(t, ends(text(s), 2), "")
		result(api.TypeInt, api.Expr{Op: api.ExprLen, Kids: []api.Expr{e}}).mustDo(t, ends(num(int64(len(s))), 3), "")
		result(api.TypeBool, api.Expr{Op: api.ExprTwo, Text: "==", Kids: []api.Expr{e, e}}).mustDo(t, ends(truth(true), 4), "")
	}
	huge := api.Expr{Op: api.ExprText, Text: long(1 << 20)}
	result(api.TypeBytes, api.Expr{Op: api.ExprTwo, Text: "+", Kids: []api.Expr{huge, huge}}).mustDo(t, ends(api.Value{}, 4+1<<17), "")
	name := long(1000) + "\x00 "
	x := run{prog: api.Program{Funcs: []api.Func{{Name: "f", Body: []api.Stmt{{Op: api.StmtDo, Exprs: []api.Expr{{Op: api.ExprCall, Text: name}}}}}, {Name: name}}}}
	x.mustDo(t, ends(api.Value{}, 2), "")
	if o := Run(x.prog, name, nil, journal.New(nil), 0); !same(o, ends(api.Value{}, 0)) {
		t.Error(told(o))
	}
}

var yes = api.Expr{Op: api.ExprBool, Num: 1}

// negated is an expression within so many others.
func negated(n int) api.Expr {
	e := yes
	for range n {
		e = api.Expr{Op: api.ExprOne, Text: "!", Kids: []api.Expr{e}}
	}
	return e
}

// enclosed is a statement within so many others.
func enclosed(n int, s api.Stmt) api.Stmt {
	for range n {
		s = api.Stmt{Op: api.StmtIf, Exprs: []api.Expr{yes}, Body: []api.Stmt{s}}
	}
	return s
}

// P1: as deep as an input may be, and as gas allows.
func TestDeepPrograms(t *testing.T) {
	end := api.Stmt{Op: api.StmtReturn}
	again := api.Stmt{Op: api.StmtDo, Exprs: []api.Expr{{Op: api.ExprCall, Text: "f"}}}
	for _, x := range []struct {
		body []api.Stmt
		want api.Outcome
	}{
		{[]api.Stmt{{Op: api.StmtLet, Text: "x", Exprs: []api.Expr{negated(1 << 16)}}}, ends(api.Value{}, 1<<16+2)},
		{[]api.Stmt{{Op: api.StmtLet, Text: "x", Exprs: []api.Expr{negated(1 << 16)}}, enclosed(1<<14, end)}, ends(api.Value{}, 1<<16+2+2<<14+1)},
		{[]api.Stmt{enclosed(40000, end), again}, ends(api.Value{}, 2*40000+1)},
		{[]api.Stmt{enclosed(6000, again)}, traps(api.TrapGas, api.MaxGas)},
		{[]api.Stmt{enclosed(1<<16-1, end)}, traps(api.TrapGas, api.MaxGas)},
	} {
		p := api.Program{Funcs: []api.Func{{Name: "f", Body: x.body}}}
		if o := Run(p, "f", nil, journal.New(nil), api.MaxGas); !same(o, x.want) {
			t.Errorf("%s; want %s", told(o), told(x.want))
		}
	}
}

// P1: a name is found as soon from deep within blocks that have none.
func TestNameFromDeepWithin(t *testing.T) {
	name := []api.Expr{{Op: api.ExprName, Text: "a"}}
	set := api.Stmt{Op: api.StmtSet, Text: "a", Exprs: name}
	loop := api.Stmt{Op: api.StmtFor, Text: "i", Exprs: []api.Expr{{Op: api.ExprNum}, {Op: api.ExprNum, Num: 10000}}, Body: []api.Stmt{set}}
	p := api.Program{Funcs: []api.Func{{Name: "f", Params: []api.Param{{Name: "a", Type: api.TypeInt}}, Result: api.TypeInt, Body: []api.Stmt{
		enclosed(20000, loop), {Op: api.StmtReturn, Exprs: name},
	}}}}
	if o := Run(p, "f", []api.Value{num(7)}, journal.New(nil), api.MaxGas); !same(o, ends(num(7), 2*20000+3+3*10000+2)) {
		t.Error(told(o))
	}
}
