package eval

import (
	"math"
	"strconv"
	"strings"
	"testing"

	"covenant/api"
	"covenant/arith"
	"covenant/journal"
	"covenant/types"
)

func num(n int64) api.Value { return arith.Num(n) }

func truth(is bool) api.Value { return arith.Bool(is) }

func text(s string) api.Value { return arith.Text([]byte(s)) }

// long is a text of so many bytes.
func long(n int) string { return strings.Repeat("x", n) }

// front is the valid program of a source.
func front(t *testing.T, src string) api.Program {
	t.Helper()
	p, e, at := types.Front([]byte(src))
	if e != api.OK {
		t.Fatalf("Front(%q): %v, %d", src, e, at)
	}
	return p
}

// pairsOf is the pairs that a text tells, such as a=1 b=2.
func pairsOf(told string) []api.Pair {
	var l []api.Pair
	for _, part := range strings.Fields(told) {
		key, value, _ := strings.Cut(part, "=")
		l = append(l, api.Pair{Key: []byte(key), Value: []byte(value)})
	}
	return l
}

// tell is the text of pairs, in their order.
func tell(l []api.Pair) string {
	var parts []string
	for _, p := range l {
		parts = append(parts, string(p.Key)+"="+string(p.Value))
	}
	return strings.Join(parts, " ")
}

// full is a store of size 2048: seven pairs that are as long as a key of one byte lets them be, and one of what is left.
func full() string {
	var parts []string
	for _, key := range strings.Split("bcdefgh", "") {
		parts = append(parts, key+"="+long(256))
	}
	return strings.Join(append(parts, "i="+long(2048-7*265-9)), " ")
}

// changed is a journal of these pairs that has two changes which a run must leave to be undone.
func changed(t *testing.T, told string) *journal.Journal {
	t.Helper()
	j := journal.New(nil)
	for _, p := range pairsOf(told) {
		if e := j.Put(p.Key, p.Value); e != api.OK {
			t.Fatal(told, e)
		}
	}
	j.Del([]byte("nothing is here"))
	return j
}

func same(a, b api.Outcome) bool {
	return arith.Same(a.Value, b.Value) && a.Trap == b.Trap && a.Used == b.Used
}

// told is an outcome for a message.
func told(o api.Outcome) string {
	v := strconv.Itoa(int(o.Value.Type)) + " " + strconv.FormatInt(o.Value.Num, 10) + " " + strconv.Quote(string(o.Value.Text))
	return "{" + v + "} trap " + strconv.Itoa(int(o.Trap)) + " used " + strconv.FormatInt(o.Used, 10)
}

func ends(v api.Value, used int64) api.Outcome { return api.Outcome{Value: v, Used: used} }

func traps(trap api.Trap, used int64) api.Outcome { return api.Outcome{Trap: trap, Used: used} }

// run is a call of f in a program, with what is stored ahead of it.
type run struct {
	prog  api.Program
	store string
	args  []api.Value
}

// limits are all limits up to a little more than what a run uses, if these are not too many, and great ones.
func limits(used int64) []int64 {
	l := []int64{math.MinInt64, -1, 0, 1, used / 2, used - 1, used, used + 1, api.MaxGas, api.MaxGas + 1, math.MaxInt64}
	for n := int64(2); n < used && n < 300; n++ {
		l = append(l, n)
	}
	return l
}

// mustDo fails unless a run ends in a way with each limit that is enough, and has no gas with each other one; and unless the store then is what it was, or what it must be.
func (x run) mustDo(t *testing.T, want api.Outcome, after string) {
	t.Helper()
	for _, limit := range limits(want.Used) {
		x.mustDoWith(t, limit, want, after)
	}
}

func (x run) mustDoWith(t *testing.T, limit int64, want api.Outcome, after string) {
	t.Helper()
	j := changed(t, x.store)
	mark, before := j.Mark(), tell(j.Pairs())
	most := min(max(limit, 0), api.MaxGas)
	if most < want.Used {
		want = traps(api.TrapGas, most)
	}
	if want.Trap != api.TrapNone {
		after = before
	}
	o := Run(x.prog, "f", x.args, j, limit)
	if !same(o, want) {
		t.Fatalf("limit %d: %s; want %s", limit, told(o), told(want))
	}
	if got := tell(j.Pairs()); got != after {
		t.Fatalf("limit %d: the store is %q; want %q", limit, got, after)
	}
	if want.Trap != api.TrapNone && j.Mark() != mark {
		t.Fatalf("limit %d: the mark is %d, and was %d", limit, j.Mark(), mark)
	}
	if e := j.Undo(mark); e != api.OK || tell(j.Pairs()) != before {
		t.Fatalf("limit %d: %v; what was ahead of the run is %q; want %q", limit, e, tell(j.Pairs()), before)
	}
}

// mustBe is mustDo for a source that changes nothing.
func mustBe(t *testing.T, src string, want api.Outcome, args ...api.Value) {
	t.Helper()
	t.Log(src)
	run{prog: front(t, src), args: args}.mustDo(t, want, "")
}

// mustRefuse fails unless a call is TrapCall, with nothing beside it, whatever the limit; and changes nothing.
func mustRefuse(t *testing.T, p api.Program, name string, args ...api.Value) {
	t.Helper()
	for _, limit := range []int64{math.MinInt64, -1, 0, 1, 100, api.MaxGas, api.MaxGas + 1} {
		j := changed(t, "a=1 b=2")
		mark := j.Mark()
		if o := Run(p, name, args, j, limit); !same(o, traps(api.TrapCall, 0)) {
			t.Fatalf("%q with %d arguments, limit %d: %s; want TrapCall", name, len(args), limit, told(o))
		}
		if got := tell(j.Pairs()); got != "a=1 b=2" || j.Mark() != mark {
			t.Fatalf("%q: the store is %q at mark %d", name, got, j.Mark())
		}
	}
}

// P10.1: the document's examples.
func TestExamples(t *testing.T) {
	mustBe(t, "fn f(a: int): int { return a / 0; }", traps(api.TrapDiv, 4), num(1))
	mustBe(t, "fn f() { f(); }", traps(api.TrapDepth, 32))
	mustBe(t, "fn f() { let s = 0; for i = 0 to 3 { s = s + i; } }", ends(api.Value{}, 2+3+3*5))
	x := run{prog: front(t, `fn f() { put("k", "new"); let x = 1 / 0; }`), store: "a=1 k=old"}
	x.mustDo(t, traps(api.TrapDiv, 7+4), "")
}

const pair = `fn f(a: int, b: bytes): int { put("k", b); return a; } fn g() { } fn h(a: bool): bool { return a; }`

// P10.1: whatever the journal is to have, there must be one.
func TestNoJournal(t *testing.T) {
	p := front(t, pair)
	for _, limit := range []int64{-1, 0, 1, 100, api.MaxGas} {
		for _, o := range []api.Outcome{
			Run(p, "f", []api.Value{num(1), text("a")}, nil, limit),
			Run(p, "g", nil, nil, limit),
			Run(p, "x", nil, nil, limit),
			Run(api.Program{}, "", nil, nil, limit),
		} {
			if !same(o, traps(api.TrapCall, 0)) {
				t.Errorf("limit %d: %s", limit, told(o))
			}
		}
	}
	if o := Run(p, "f", []api.Value{num(1), text("a")}, &journal.Journal{}, 100); !same(o, ends(num(1), 9)) {
		t.Error(told(o))
	}
}

// P10.1: programs that are not valid, though f is, or though nothing that is run is wrong.
func TestInvalidPrograms(t *testing.T) {
	f := api.Func{Name: "f"}
	bad := map[string][]api.Func{
		"the second function does not end": {f, {Name: "g", Result: api.TypeInt}},
		"the first function does not end":  {{Name: "g", Result: api.TypeInt}, f},
		"two functions have one name":      {f, {Name: "g"}, {Name: "g"}},
		"f is there twice":                 {f, f},
		"f has an unknown result":          {{Name: "f", Result: 4}},
		"f has a statement of no kind":     {{Name: "f", Body: []api.Stmt{{}}}},
		"a statement lacks a part":         {{Name: "f", Body: []api.Stmt{{Op: api.StmtDo}}}},
		"there is a part too many":         {{Name: "f", Body: []api.Stmt{{Op: api.StmtReturn, Exprs: make([]api.Expr, 1)}}}},
		"a name is not in scope":           {{Name: "f", Body: []api.Stmt{{Op: api.StmtIf, Exprs: []api.Expr{{Op: api.ExprBool}}, Body: []api.Stmt{{Op: api.StmtSet, Text: "x", Exprs: []api.Expr{{Op: api.ExprNum}}}}}}}},
		"a type is wrong behind a return":  {{Name: "f", Body: []api.Stmt{{Op: api.StmtReturn}, {Op: api.StmtIf, Exprs: []api.Expr{{Op: api.ExprNum}}}}}},
		"a parameter has no type":          {{Name: "f"}, {Name: "g", Params: []api.Param{{Name: "a"}}}},
	}
	for why, l := range bad {
		t.Log(why)
		mustRefuse(t, api.Program{Funcs: l}, "f")
	}
	many := []api.Func{f}
	for i := range 63 {
		many = append(many, api.Func{Name: "g" + strconv.Itoa(i)})
	}
	run{prog: api.Program{Funcs: many}}.mustDo(t, ends(api.Value{}, 0), "")
	mustRefuse(t, api.Program{Funcs: append(many, api.Func{Name: "h"})}, "f")
	mustRefuse(t, api.Program{}, "f")
	mustRefuse(t, api.Program{}, "")
}

// P10.1.
func TestNoSuchFunction(t *testing.T) {
	p := front(t, pair)
	for _, name := range []string{"", "x", "ff", "F", "f ", "a", "fn", "get", "\x00", long(1 << 16)} {
		mustRefuse(t, p, name)
		mustRefuse(t, p, name, num(1), text("a"))
	}
}

// P10.1.
func TestNumberOfArguments(t *testing.T) {
	p := front(t, pair)
	mustRefuse(t, p, "f")
	mustRefuse(t, p, "f", num(1))
	mustRefuse(t, p, "f", text("a"))
	mustRefuse(t, p, "f", num(1), text("a"), num(1))
	mustRefuse(t, p, "f", num(1), text("a"), api.Value{})
	mustRefuse(t, p, "f", make([]api.Value, 1000)...)
	mustRefuse(t, p, "g", num(1))
	mustRefuse(t, p, "g", api.Value{})
	mustRefuse(t, p, "h")
	mustRefuse(t, p, "h", truth(true), truth(true))
	mustRefuse(t, p, "f", text("a"), num(1))
	x := run{prog: p, args: []api.Value{num(1), text("a")}, store: "a=1"}
	x.mustDo(t, ends(num(1), 9), "a=1 k=a")
	if o := Run(p, "g", nil, journal.New(nil), 0); !same(o, ends(api.Value{}, 0)) {
		t.Error(told(o))
	}
	if o := Run(p, "g", []api.Value{}, journal.New(nil), 0); !same(o, ends(api.Value{}, 0)) {
		t.Error(told(o))
	}
}

// identity is a program of which f returns its argument.
func identity(kind string) string { return "fn f(a: " + kind + "): " + kind + " { return a; }" }

// P10.1: arguments that fit are values of the program as they are.
func TestArgumentsThatFit(t *testing.T) {
	for _, n := range []int64{0, 1, -1, 2, math.MaxInt64, math.MinInt64} {
		mustBe(t, identity("int"), ends(num(n), 2), num(n))
		mustBe(t, identity("int"), ends(num(n), 2), api.Value{Type: api.TypeInt, Num: n, Text: []byte{}})
		v := api.Value{Type: api.TypeBool, Num: n}
		mustBe(t, identity("bool"), ends(v, 2), v)
		mustBe(t, identity("bool"), ends(v, 2), api.Value{Type: api.TypeBool, Num: n, Text: []byte{}})
		mustBe(t, "fn f(a: bool): int { if a { return 1; } return 0; }", ends(num(map[bool]int64{true: 1}[n == 1]), 4), v)
		mustBe(t, "fn f(a: bool): bool { return a == true; }", ends(truth(n == 1), 4), v)
		mustBe(t, "fn f(a: bool): bool { return !a; }", ends(truth(n != 1), 3), v)
		if n != 1 {
			mustBe(t, "fn f(a: bool): bool { return a && true; }", ends(truth(false), 3), v)
			mustBe(t, "fn f(a: bool): bool { return a || false; }", ends(truth(false), 4), v)
		}
		mustBe(t, "fn f(a: bool): bool { return true && a; }", ends(v, 4), v)
		mustBe(t, "fn f(a: bool): bool { return false || a; }", ends(v, 4), v)
	}
	for _, s := range []string{"", "a", "\x00\xff\"\n", long(255), long(256)} {
		mustBe(t, identity("bytes"), ends(text(s), 2), text(s))
		mustBe(t, "fn f(a: bytes): int { return len(a); }", ends(num(int64(len(s))), 3), text(s))
	}
	mustBe(t, identity("bytes"), ends(text(""), 2), api.Value{Type: api.TypeBytes})
}

// P10.1.
func TestArgumentsThatDoNotFit(t *testing.T) {
	kinds := map[string]api.Type{"int": api.TypeInt, "bool": api.TypeBool, "bytes": api.TypeBytes}
	for kind, right := range kinds {
		one := front(t, identity(kind))
		first := front(t, "fn f(a: "+kind+", b: int) { }")
		last := front(t, "fn f(a: int, b: "+kind+") { }")
		refuse := func(v api.Value) {
			t.Helper()
			mustRefuse(t, one, "f", v)
			mustRefuse(t, first, "f", v, num(1))
			mustRefuse(t, last, "f", num(1), v)
		}
		for _, wrong := range []api.Type{api.TypeNone, api.TypeInt, api.TypeBool, api.TypeBytes, 4, -1, 1 << 40} {
			if wrong != right {
				refuse(api.Value{Type: wrong})
				refuse(api.Value{Type: wrong, Num: 1})
				refuse(api.Value{Type: wrong, Text: []byte("a")})
			}
		}
		for _, s := range []string{"x", "\x00", long(256), long(257)} {
			if right != api.TypeBytes {
				refuse(api.Value{Type: right, Text: []byte(s)})
				refuse(api.Value{Type: right, Num: 1, Text: []byte(s)})
			}
		}
	}
	refuse := func(v api.Value) {
		t.Helper()
		mustRefuse(t, front(t, identity("bytes")), "f", v)
	}
	for _, n := range []int64{1, -1, 2, math.MaxInt64, math.MinInt64} {
		refuse(api.Value{Type: api.TypeBytes, Num: n})
		refuse(api.Value{Type: api.TypeBytes, Num: n, Text: []byte("a")})
		refuse(api.Value{Type: api.TypeBytes, Num: n, Text: []byte(long(256))})
	}
	for _, n := range []int{257, 258, 1 << 16, 1 << 20} {
		refuse(text(long(n)))
	}
}

// P10.1, P10.4: no run has more gas than MaxGas, and one without any can do what is free.
func TestLimits(t *testing.T) {
	loop := func(n int) string { return "fn f() { for i = 0 to " + strconv.Itoa(n) + " { } }" }
	mustBe(t, loop(api.MaxGas-4), ends(api.Value{}, api.MaxGas-1))
	mustBe(t, loop(api.MaxGas-3), ends(api.Value{}, api.MaxGas))
	mustBe(t, loop(api.MaxGas-2), ends(api.Value{}, api.MaxGas+1))
	mustBe(t, loop(math.MaxInt64), ends(api.Value{}, math.MaxInt64))
	mustBe(t, "fn f() { }", ends(api.Value{}, 0))
	mustBe(t, "fn f() { return; }", ends(api.Value{}, 1))
	x := run{prog: front(t, `fn f() { for i = 0 to 100000 { put("a", "1"); del("a"); } }`), store: "a=0"}
	x.mustDo(t, traps(api.TrapGas, api.MaxGas), "")
}
