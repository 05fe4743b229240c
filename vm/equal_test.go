package vm

import (
	"math"
	"math/rand"
	"strings"
	"testing"

	"covenant/api"
	"covenant/compile"
	"covenant/eval"
	"covenant/journal"
	"covenant/types"
)

// both is a source as a program and as a module.
type both struct {
	src string
	p   api.Program
	m   api.Module
}

// built is a source that is right.
func built(t *testing.T, src string) both {
	t.Helper()
	p, e, at := types.Front([]byte(src))
	if e != api.OK {
		t.Fatalf("Front(%.3000s): %v, %d", src, e, at)
	}
	m, e, at := compile.Build([]byte(src))
	if e != api.OK {
		t.Fatalf("Build(%.3000s): %v, %d", src, e, at)
	}
	return both{src, p, m}
}

// mustAgree fails unless a run of the module is one of the program, in all that comes of it. It returns the outcome.
func (x both) mustAgree(t *testing.T, name string, args []api.Value, stored map[string]string, limit int64) api.Outcome {
	t.Helper()
	j, k := journal.New(pairsIn(stored)), journal.New(pairsIn(stored))
	want := eval.Run(x.p, name, args, j, limit)
	o := Run(x.m, name, args, k, limit)
	if !same(o, want) || tell(j.Pairs()) != tell(k.Pairs()) || j.Mark() != k.Mark() {
		t.Fatalf("%.4000s\n%q, %.300v, limit %d: %s, %.2000q; want %s, %.2000q", x.src, name, args, limit, told(o), tell(k.Pairs()), told(want), tell(j.Pairs()))
	}
	return o
}

// mustAgreeAlways is mustAgree with all limits, if a run uses few, or with those around what it uses. It counts how the runs end.
func (x both) mustAgreeAlways(t *testing.T, name string, args []api.Value, stored map[string]string, count map[api.Trap]int) {
	t.Helper()
	for _, limit := range limits(x.mustAgree(t, name, args, stored, api.MaxGas).Used) {
		count[x.mustAgree(t, name, args, stored, limit).Trap]++
	}
}

// mustCount fails unless there were so many runs of each end.
func mustCount(t *testing.T, count map[api.Trap]int, least int) {
	t.Helper()
	for trap := api.TrapNone; trap <= api.TrapSize; trap++ {
		if count[trap] < least {
			t.Errorf("only %d runs with trap %d", count[trap], trap)
		}
	}
}

// sources are programs with all kinds of statements and expressions.
func sources() []string {
	return []string{
		`fn f(a: int): int { return a / 0; } fn g(): int { f(1); return 2; }`,
		`fn f() { f(); } fn g() { } fn h() { return; }`,
		`fn f(a: int, b: int): int { return a + b * a - b; } fn g(a: int, b: int): int { return a / b + a % b; } fn h(a: int): int { return -a; }`,
		`fn f(a: int, b: int): bool { return a < b; } fn g(a: int, b: int): bool { return (a <= b) == (a >= b); } fn h(a: int, b: int): bool { return (a > b) != (a == b); } fn k(a: int, b: int): bool { return a != b; }`,
		`fn f(a: bool, b: bool): bool { return a && b; } fn g(a: bool, b: bool): bool { return a || b; } fn h(a: bool, b: bool): bool { return !a == b; } fn k(a: bool, b: bool): bool { return a != b || a && !b; }`,
		`fn f(a: bool): bool { return a; } fn g(a: bool): bool { return a && a || a; } fn h(a: bool, b: int): bool { return a && 1 / b == 1; } fn k(a: bool, b: int): bool { return a || 1 / b == 1; }`,
		`fn f(a: bytes, b: bytes): bytes { return a + b; } fn g(a: bytes, b: bytes): bool { return a == b; } fn h(a: bytes, b: bytes): bool { return a != b + ""; } fn k(a: bytes): int { return len(a + "abc"); }`,
		`fn f(a: bytes): bytes { return get(a); } fn g(a: bytes): bool { return has(a); } fn h(a: bytes): bytes { return get(get(a)) + get("a"); } fn k(): int { return len(get("k")); }`,
		`fn f(a: bytes, b: bytes) { put(a, b); } fn g(a: bytes) { del(a); } fn h(a: bytes, b: bytes): bytes { put(a, b); del(b); put(b, get(a)); return get(b); } fn k(a: bytes, b: int): int { put(a, "1"); del("k"); put("", a); return 1 / b; }`,
		`fn f(a: int): int { if a == 1 { return 1; } else { if a > 1 { a = a - 1; } else { return 3; } } return a; } fn g(a: bool) { if a { put("a", "yes"); } } fn h(a: bool) { if a { } else { put("a", "no"); return; } put("b", "end"); }`,
		`fn f(a: int, b: int): int { let s = 0; for i = a to b { s = s + i; if s > 50 { return s; } } return s; } fn g(a: int): int { let s = 0; for i = 0 to a { for k = i to a { s = s + k; } } return s; } fn h(a: int) { for i = a to a + 3 { put("k", "k" + get("k")); } }`,
		`fn f(a: int): int { for i = 9223372036854775805 to 9223372036854775807 { a = a + i; } return a; } fn g() { for i = 0 to 9223372036854775807 { put("a", "b"); del("a"); } }`,
		`fn f(a: int): int { if a <= 0 { return 0; } return 1 + f(a - 1); } fn g(a: int): bool { if a <= 0 { return true; } return h(a - 1); } fn h(a: int): bool { if a <= 0 { return false; } return g(a - 1); } fn k(a: int): int { return f(14) + f(15) + f(a); }`,
		`fn f(a: int, b: bytes, c: bool): bytes { let x = a; let y = b; if c { let z = y + y; x = x + len(z); y = z; } if x > 9 { let z = x; return "more"; } return y; } fn g(a: int): int { let x = 1; x = a; a = 2; return x; }`,
		`fn f() { let x = "0123456789abcdef"; for i = 0 to 9 { put(x, x); x = x + x; } } fn g() { let x = ""; for i = 0 to 99 { put(x, "0123456789abcdef0123456789abcdef"); x = x + "x"; } } fn h(a: bytes) { put("a", ""); del("k"); put(a, a); put("b", a + a); }`,
		`fn f(a: bytes, b: bytes): bytes { return second(first(a, b), second(a, b)); } fn first(a: bytes, b: bytes): bytes { put("first", b); return a; } fn second(a: bytes, b: bytes): bytes { put("second", a); return b; }`,
		`fn f(a: int): int { none(a); one(a); return one(a) - one(1) * one(2); } fn none(a: int) { if a == 1 { return; } one(a); } fn one(a: int): int { put("a", get("a") + "1"); return a + 1; }`,
		`fn f(): int { return 1; return 1 / 0; } fn g(a: bool): int { if a { return 1; } else { return 2; } return 3 / 0; } fn h() { return; put("a", "no"); }`,
		`# nothing but this`,
	}
}

// argsOfAllKinds are many arguments for parameters, some of which do not fit, and always the same ones.
func argsOfAllKinds(params []api.Param) [][]api.Value {
	all := map[api.Type][]api.Value{
		api.TypeInt:   {num(0), num(1), num(2), num(15), num(16), num(math.MaxInt64), num(math.MinInt64)},
		api.TypeBool:  {truth(false), truth(true), {Type: api.TypeBool, Num: 2}},
		api.TypeBytes: {text(""), text("a"), text("k"), text(long(64)), text(long(65)), text(long(256)), text("\x00\xff\n")},
	}
	l := [][]api.Value{nil}
	for _, p := range params {
		var longer [][]api.Value
		for _, args := range l {
			for _, v := range all[p.Type] {
				longer = append(longer, append(append([]api.Value(nil), args...), v))
			}
		}
		l = longer
	}
	return append(l, make([]api.Value, len(params)), make([]api.Value, 1), nil)
}

// P14.2: programs with all kinds of statements and expressions, each function with arguments of all kinds, and limits that are enough or not.
func TestEqualSources(t *testing.T) {
	count := map[api.Trap]int{}
	stores := []map[string]string{{}, {"a": "1", "k": "0123456789abcdef", "": "none"}}
	for _, src := range sources() {
		x := built(t, src)
		for _, f := range x.p.Funcs {
			for _, args := range argsOfAllKinds(f.Params) {
				for _, stored := range stores {
					x.mustAgreeAlways(t, f.Name, args, stored, count)
				}
			}
		}
		for _, name := range []string{"", "F", "x", "nothing", "put", "a"} {
			if o := x.mustAgree(t, name, nil, stores[1], 100); o.Trap != api.TrapCall {
				t.Errorf("%s\n%q: %s", src, name, told(o))
			}
		}
	}
	mustCount(t, count, 20)
}

// P14.2: where there is room for little more, or for nothing.
func TestEqualOnFullStores(t *testing.T) {
	count := map[api.Trap]int{}
	source := rand.New(rand.NewSource(5))
	for _, src := range sources() {
		x := built(t, src)
		for _, f := range x.p.Funcs {
			for range 12 {
				l := argsOfAllKinds(f.Params)
				x.mustAgreeAround(t, f.Name, pick(source, l...), randomStore(source), 5000, count)
			}
		}
	}
	mustCount(t, count, 5)
}

// mustAgreeAround is mustAgree with a limit, with limits around what is used then, and with less.
func (x both) mustAgreeAround(t *testing.T, name string, args []api.Value, stored map[string]string, limit int64, count map[api.Trap]int) {
	t.Helper()
	o := x.mustAgree(t, name, args, stored, limit)
	count[o.Trap]++
	for _, less := range []int64{o.Used + 1, o.Used, o.Used - 1, o.Used / 2, o.Used / 3} {
		count[x.mustAgree(t, name, args, stored, less).Trap]++
	}
}

// P14.2: random sources.
func TestEqualRandomSources(t *testing.T) {
	w := &writer{source: rand.New(rand.NewSource(6))}
	count := map[api.Trap]int{}
	for range 500 {
		src := w.program()
		if _, e, _ := types.Front([]byte(src)); e == api.ErrTooMany || e == api.ErrDeep {
			continue
		}
		x := built(t, src)
		for _, c := range x.m.Codes {
			for range 3 {
				limit := pick[int64](w.source, 30, 100, 500, 500, 2000, 2000, 2000, api.MaxGas/5)
				x.mustAgreeAround(t, c.Name, argsFor(w.source, c.Params), randomStore(w.source), limit, count)
			}
		}
	}
	mustCount(t, count, 100)
}

// longest is a source with as many of a part as there can be.
func longest(t *testing.T, head, part, end string) both {
	t.Helper()
	for n := (api.MaxSource - len(head+end)) / len(part); ; n-- {
		src := head + strings.Repeat(part, n) + end
		if _, e, _ := types.Front([]byte(src)); e != api.ErrTooMany {
			return built(t, src)
		}
	}
}

// P14.2: the longest rows of instructions between two that use gas, in sixteen functions within each other.
func TestEqualLongestRows(t *testing.T) {
	count := map[api.Trap]int{}
	for _, sign := range []string{"||", "&&"} {
		x := longest(t, "fn f(n:int,b:bool):bool{if n==0{return b;}return f(n-1,b)", sign+"b", ";}")
		for _, n := range []int64{0, 1, 15, 16} {
			for _, b := range []bool{false, true} {
				args := []api.Value{num(n), truth(b)}
				o := x.mustAgree(t, "f", args, nil, api.MaxGas)
				for _, limit := range []int64{o.Used - 1, o.Used, o.Used / 2, 0} {
					count[x.mustAgree(t, "f", args, nil, limit).Trap]++
				}
				if want := api.TrapNone; n < 16 && (o.Trap != want || o.Value.Num == 1 != b) || n == 16 && o.Trap != api.TrapDepth {
					t.Errorf("%s, %d, %v: %s", sign, n, b, told(o))
				}
			}
		}
	}
}
