package compile

import (
	"slices"
	"strconv"
	"strings"
	"testing"

	"covenant/api"
)

func num(n int64) api.Expr     { return api.Expr{Op: api.ExprNum, Num: n} }
func textOf(s string) api.Expr { return api.Expr{Op: api.ExprText, Text: s} }
func name(s string) api.Expr   { return api.Expr{Op: api.ExprName, Text: s} }
func del(s string) api.Stmt    { return api.Stmt{Op: api.StmtDel, Exprs: []api.Expr{textOf(s)}} }
func truth() api.Expr          { return api.Expr{Op: api.ExprBool, Num: 1} }
func call(s string) api.Stmt {
	return api.Stmt{Op: api.StmtDo, Exprs: []api.Expr{{Op: api.ExprCall, Text: s}}}
}
func leave(l ...api.Expr) api.Stmt { return api.Stmt{Op: api.StmtReturn, Exprs: l} }

func let(s string) api.Stmt {
	return api.Stmt{Op: api.StmtLet, Text: s, Exprs: []api.Expr{num(1)}}
}

func loop(s string, body ...api.Stmt) api.Stmt {
	return api.Stmt{Op: api.StmtFor, Text: s, Exprs: []api.Expr{num(0), num(9)}, Body: body}
}

func program(funcs ...api.Func) api.Program { return api.Program{Funcs: funcs} }

// long is a function f with so many instructions, which are at least 8.
func long(n int) api.Func {
	f := api.Func{Name: "f"}
	n-- // the last OpReturn
	for ; n%3 != 0; n -= 2 {
		f.Body = append(f.Body, leave())
	}
	for ; n > 0; n -= 3 {
		f.Body = append(f.Body, call("f"))
	}
	return f
}

// named is functions with such names, which are the same otherwise.
func named(names ...string) []api.Func {
	var l []api.Func
	for _, s := range names {
		l = append(l, api.Func{Name: s, Body: []api.Stmt{leave()}})
	}
	return l
}

// many is so many different texts.
func many(n int) []string {
	var l []string
	for i := range n {
		l = append(l, "x"+strconv.Itoa(i))
	}
	return l
}

// dels is a function that uses texts.
func dels(f string, l ...string) api.Func {
	out := api.Func{Name: f}
	for _, s := range l {
		out.Body = append(out.Body, del(s))
	}
	return out
}

func checkTooMany(t *testing.T, what string, p api.Program) {
	t.Helper()
	if m, e := Compile(p); e != api.ErrTooMany || m.Codes != nil || m.Texts != nil {
		t.Errorf("%s: %v, %d Codes, %d Texts", what, e, len(m.Codes), len(m.Texts))
	}
}

func checkRight(t *testing.T, what string, p api.Program) api.Module {
	t.Helper()
	m, e := Compile(p)
	if e != api.OK || len(m.Codes) != len(p.Funcs) {
		t.Errorf("%s: %v, %d Codes", what, e, len(m.Codes))
		return api.Module{Codes: make([]api.Code, len(p.Funcs))}
	}
	return m
}

// P12.1: the greatest number of Instrs, and one more, whichever function has them.
func TestInstrsLimit(t *testing.T) {
	for n := api.MaxInstrs - 3; n <= api.MaxInstrs; n++ {
		what := strconv.Itoa(n) + " instructions"
		m := checkRight(t, what, program(long(n)))
		if got := len(m.Codes[0].Instrs); got != n {
			t.Errorf("%s: %d", what, got)
		}
		m = checkRight(t, what+" twice", program(append(named("g", "h"), long(n), dels("z", many(1000)...))...))
		if got := m.Codes[2].Instrs; len(got) != n || got[n-1] != (api.Instr{Op: api.OpReturn}) {
			t.Errorf("%s in the third function: %d", what, len(got))
		}
	}
	for _, n := range []int{api.MaxInstrs + 1, api.MaxInstrs + 2, api.MaxInstrs + 3, 2 * api.MaxInstrs, 1000000} {
		what := strconv.Itoa(n) + " instructions"
		checkTooMany(t, what, program(long(n)))
		checkTooMany(t, what+" in the third function", program(append(named("g", "h"), long(n))...))
		checkTooMany(t, what+" in the first function", program(append([]api.Func{long(n)}, named("g", "h")...)...))
	}
	g := long(api.MaxInstrs)
	g.Name = "g"
	checkRight(t, "two full functions", program(long(api.MaxInstrs), g))
}

// P12.1, P12.2: jumps to the last place that there may be.
func TestLongJumps(t *testing.T) {
	f := long(api.MaxInstrs - 5)
	f.Body = []api.Stmt{{Op: api.StmtIf, Exprs: []api.Expr{truth()}, Body: f.Body}}
	got := checkRight(t, "a long block", program(f)).Codes[0].Instrs
	last := int64(api.MaxInstrs - 1)
	if len(got) != api.MaxInstrs || got[3] != (api.Instr{Op: api.OpUnless, A: last}) || got[last-1] != (api.Instr{Op: api.OpJump, A: last}) {
		t.Errorf("%d instructions, %v, %v", len(got), got[3], got[len(got)-2])
	}
	f.Body = append(f.Body, leave())
	checkTooMany(t, "a longer block", program(f))
}

// P12.1: the greatest number of Texts, which all functions share, and one more; a text that comes again does not count.
func TestTextsLimit(t *testing.T) {
	for _, n := range []int{0, 1, 1023, api.MaxRow} {
		l := many(n)
		m := checkRight(t, strconv.Itoa(n)+" texts", program(dels("f", l[:n/2]...), dels("g", l...), dels("h", l[n/3:]...)))
		if got := texts(m); !slices.Equal(got, l) {
			t.Errorf("%d texts: %q", n, got)
		}
	}
	l := many(api.MaxRow + 1)
	checkTooMany(t, "1025 texts", program(dels("f", l...)))
	checkTooMany(t, "1025 texts in two functions", program(dels("f", l[:1000]...), dels("g", l[1000:]...)))
	checkTooMany(t, "the empty text as one too many", program(dels("f", l[1:]...), dels("g", "")))
}

// P12.1: the longest text, and a longer one, wherever it stands.
func TestTextLengthLimit(t *testing.T) {
	for _, n := range []int{0, 1, 63, api.MaxText} {
		s := strings.Repeat("\xFF", n)
		if got := texts(checkRight(t, "a text", program(dels("f", "a", s)))); !slices.Equal(got, []string{"a", s}) {
			t.Errorf("%d bytes: %q", n, got)
		}
	}
	for _, n := range []int{api.MaxText + 1, api.MaxBytes, api.MaxBytes + 1} {
		s := strings.Repeat("a", n)
		checkTooMany(t, strconv.Itoa(n)+" bytes", program(dels("f", s, "b")))
		checkTooMany(t, strconv.Itoa(n)+" bytes behind a return", program(api.Func{Name: "f", Body: []api.Stmt{leave(), del("b"), del(s)}}))
	}
	long := api.Expr{Op: api.ExprName, Text: strings.Repeat("a", 100)}
	f := api.Func{Name: "f", Params: []api.Param{{Name: long.Text, Type: api.TypeBool}}, Result: api.TypeBool, Body: []api.Stmt{leave(long)}}
	checkRight(t, "a long name of a variable", program(f))
}

// P12.1: the longest name of a function, and a longer one.
func TestNameLimit(t *testing.T) {
	for _, s := range []string{"", "f", "é\x00 \xFF", strings.Repeat("a", api.MaxName), strings.Repeat("é", 8)} {
		m := checkRight(t, s, program(named("g", s, "h")...))
		if m.Codes[1].Name != s {
			t.Errorf("%q: %q", s, m.Codes[1].Name)
		}
	}
	for _, s := range []string{strings.Repeat("a", api.MaxName+1), strings.Repeat("é", 8) + "a", strings.Repeat("é", 9), strings.Repeat("a", api.MaxBytes+1)} {
		checkTooMany(t, s, program(named(s)...))
		checkTooMany(t, s, program(named("g", "h", s)...))
	}
}

// P12.1: the greatest number of functions, and one more.
func TestCodesLimit(t *testing.T) {
	for _, n := range []int{0, 1, 63, api.MaxCodes} {
		l := many(n)
		m := checkRight(t, strconv.Itoa(n)+" functions", program(named(l...)...))
		for i, c := range m.Codes {
			if c.Name != l[i] {
				t.Errorf("%d functions: %q at %d", n, c.Name, i)
			}
		}
	}
	checkTooMany(t, "65 functions", program(named(many(api.MaxCodes+1)...)...))
	last := program(append([]api.Func{{Name: "f", Body: []api.Stmt{call("x62")}}}, named(many(63)...)...)...)
	if got := checkRight(t, "64 functions", last).Codes[0].Instrs; !slices.Equal(got, laid("gas 1, gas 1, call 63, return 0")) {
		t.Errorf("a call of the last of 64 functions: %s", told(got))
	}
}

// P12.1: the least and the greatest numbers of slots; more names are not valid.
func TestSlotsLimit(t *testing.T) {
	var params []api.Param
	var lets, row []api.Stmt
	nest := loop("x63", let("y"))
	nest.Body = nil
	for i, s := range many(64) {
		if i < 16 {
			params = append(params, api.Param{Name: s, Type: api.TypeInt})
		}
		lets, row = append(lets, let(s)), append(row, loop(s))
		if i > 0 {
			nest = loop("x"+strconv.Itoa(63-i), nest)
		}
	}
	for _, c := range []struct {
		what   string
		params []api.Param
		body   []api.Stmt
		slots  int
	}{
		{"nothing", nil, nil, 0},
		{"a parameter", params[:1], nil, 1},
		{"a let", nil, lets[:1], 1},
		{"a for", nil, row[:1], 2},
		{"16 parameters", params, nil, 16},
		{"64 lets", nil, lets, 64},
		{"64 fors in a row", nil, row, 128},
		{"64 fors within each other", nil, []api.Stmt{nest}, 128},
		{"16 parameters and 48 lets", params, lets[16:], 64},
		{"16 parameters and 48 fors", params, row[16:], 112},
		{"32 lets and 32 fors", nil, slices.Concat(lets[:32], row[32:]), 96},
	} {
		f := api.Func{Name: "f", Params: c.params, Body: c.body}
		m := checkRight(t, c.what, program(f))
		if m.Codes[0].Slots != c.slots || len(m.Codes[0].Params) != len(c.params) {
			t.Errorf("%s: %d slots, %d parameters; want %d, %d", c.what, m.Codes[0].Slots, len(m.Codes[0].Params), c.slots, len(c.params))
		}
		if len(c.params)+len(c.body) == 64 || c.slots == 128 {
			f.Body = slices.Concat(c.body, []api.Stmt{let("more")})
			checkTooMany(t, c.what+" and a let", program(f))
		}
	}
	more := append(slices.Clone(params), api.Param{Name: "more", Type: api.TypeInt})
	checkTooMany(t, "17 parameters", program(api.Func{Name: "f", Params: more}))
}

// P12.1: a program that is not valid has no module, and the error of Check, even if its module would be too great.
func TestErrorsOfCheck(t *testing.T) {
	unknown := api.Stmt{Op: api.StmtDo, Exprs: []api.Expr{name("x")}}
	tooLong := long(api.MaxInstrs + 1)
	for _, c := range []struct {
		what string
		p    api.Program
		want api.Errno
	}{
		{"65 functions with one name", program(slices.Repeat(named("f"), 65)...), api.ErrTooMany},
		{"two functions with one name", program(append(named("f", "f"), tooLong)...), api.ErrTwice},
		{"a let twice", program(api.Func{Name: "f", Body: slices.Concat(tooLong.Body, []api.Stmt{let("x"), let("x")})}), api.ErrTwice},
		{"a name that is not known", program(api.Func{Name: "f", Body: slices.Concat(tooLong.Body, []api.Stmt{unknown})}), api.ErrName},
		{"a function that is not known", program(tooLong, api.Func{Name: "g", Body: []api.Stmt{call("h")}}), api.ErrName},
		{"a wrong type", program(api.Func{Name: "f", Body: []api.Stmt{leave(num(1))}}), api.ErrType},
		{"an unknown type", program(api.Func{Name: "f", Result: 4}), api.ErrType},
		{"a parameter without a type", program(api.Func{Name: "f", Params: []api.Param{{Name: "a"}}}), api.ErrType},
		{"an unknown statement", program(api.Func{Name: "f", Body: []api.Stmt{{}}}), api.ErrType},
		{"an unknown expression", program(api.Func{Name: "f", Body: []api.Stmt{{Op: api.StmtLet, Exprs: []api.Expr{{Op: 11}}}}}), api.ErrType},
		{"a let without an expression", program(api.Func{Name: "f", Body: []api.Stmt{{Op: api.StmtLet}}}), api.ErrType},
		{"an unknown sign", program(api.Func{Name: "f", Body: []api.Stmt{{Op: api.StmtLet, Exprs: []api.Expr{{Op: api.ExprTwo, Text: "=", Kids: []api.Expr{num(1), num(1)}}}}}}), api.ErrType},
		{"no return", program(api.Func{Name: strings.Repeat("f", 17), Result: api.TypeInt}), api.ErrEnds},
	} {
		if m, e := Compile(c.p); e != c.want || m.Codes != nil || m.Texts != nil {
			t.Errorf("%s: %v, %d Codes; want %v", c.what, e, len(m.Codes), c.want)
		}
	}
}

// P12.1: Build returns the errors of Front, and their offsets.
func TestErrorsOfFront(t *testing.T) {
	for _, c := range []struct {
		src  string
		want api.Errno
		at   int
	}{
		{strings.Repeat(" ", api.MaxSource+1), api.ErrTooMany, 0},
		{`fn f() { "`, api.ErrToken, 9},
		{`fn abcdefghijklmnopq() { }`, api.ErrLong, 3},
		{`fn f() { 1 }`, api.ErrSyntax, 11},
		{`fn f() { } fn`, api.ErrSyntax, 13},
		{`fn f(): int { return ` + strings.Repeat("(", 40), api.ErrDeep, 52},
		{`fn f(): int { }`, api.ErrEnds, 0},
		{`fn g() { } fn f(): int { }`, api.ErrEnds, 11},
		{`fn f(a: int) { let a = 1; }`, api.ErrTwice, 15},
		{`fn f() { x; }`, api.ErrName, 9},
		{`fn f() { let x = 1 + true; }`, api.ErrType, 21},
		{strings.Repeat("fn f(){}", 65), api.ErrTooMany, 0},
		{"\xFF", api.ErrToken, 0},
	} {
		if m, e, at := Build([]byte(c.src)); e != c.want || at != c.at || m.Codes != nil || m.Texts != nil {
			t.Errorf("Build(%q): %v, %d, %d Codes; want %v, %d", c.src, e, at, len(m.Codes), c.want, c.at)
		}
	}
	if m, e, at := Build(nil); e != api.OK || at != 0 || !same(m, api.Module{}) {
		t.Error(m, e, at)
	}
}

// P12.1: no source of MaxSource bytes comes to a module that is not valid, and the greatest ones have all that they should.
func TestGreatSources(t *testing.T) {
	for _, part := range []string{`fn %(){}`, `fn %(){return;}`} {
		var b strings.Builder
		for _, s := range many(api.MaxCodes) {
			b.WriteString(strings.Replace(part, "%", s, 1))
		}
		if m := built(t, b.String()); len(m.Codes) != api.MaxCodes {
			t.Errorf("%d Codes", len(m.Codes))
		}
	}
	if c := built(t, "fn f(){"+strings.Repeat("return;", 582)+"}").Codes[0]; len(c.Instrs) != 2*582+1 {
		t.Errorf("%d instructions", len(c.Instrs))
	}
	var fors strings.Builder
	for _, s := range many(64) {
		fors.WriteString("for " + s + "=0 to 9{}")
	}
	if c := built(t, "fn f(){"+fors.String()+"}").Codes[0]; c.Slots != 128 || len(c.Instrs) != 64*17+1 {
		t.Errorf("%d slots, %d instructions", c.Slots, len(c.Instrs))
	}
	var sum []string
	for _, s := range many(400) {
		sum = append(sum, `"`+s+`"`)
	}
	if m := built(t, "fn f():bytes{return "+strings.Join(sum, "+")+";}"); !slices.Equal(texts(m), many(400)) {
		t.Errorf("%d texts", len(m.Texts))
	}
}
