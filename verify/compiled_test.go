package verify

import (
	"math/rand"
	"strconv"
	"strings"
	"testing"

	"covenant/api"
	"covenant/compile"
)

// mustBuild returns the module of a source, which must be safe.
func mustBuild(t *testing.T, src string) api.Module {
	t.Helper()
	m, e, at := compile.Build([]byte(src))
	if e != api.OK {
		t.Fatalf("%.3000s: %v, %d", src, e, at)
	}
	if e := Check(m); e != api.OK {
		t.Fatalf("%.3000s: %v", src, e)
	}
	return m
}

// P13.2: sources of each kind of statement and expression.
func TestCompiled(t *testing.T) {
	for _, src := range []string{
		"",
		"fn f() { }",
		"fn f() { return; }",
		"fn f() { return; return; }",
		"fn f(): int { return 2; }",
		"fn f(): int { return 2; return 3; }",
		"fn f(): bool { return true; }",
		`fn f(): bytes { return "a"; }`,
		"fn f(a: int, b: bool, c: bytes): int { return a; }",
		"fn f(a: int, b: bool, c: bytes): bool { return b; }",
		"fn f(a: int, b: bool, c: bytes): bytes { return c; }",
		"fn f(a: int) { a = a + 1 - 2 * 3 / 4 % 5; }",
		"fn f(a: int): bool { return a < 1 || a <= 2 && a > 3 || a >= 4 && !(a == 5) && a != -6; }",
		`fn f(a: bytes): bool { return a + "b" == get("c") && has("d") || len("e") == 1; }`,
		"fn f(a: bool): bool { return a && a; }",
		"fn f(a: bool): bool { return a || a; }",
		"fn f(a: bool): bool { return (a && a) == (a || !a); }",
		`fn f() { put("a", "b"); del("c"); }`,
		`fn f() { let a = 1; let b = true; let c = "d"; a = 2; b = false; c = "e"; }`,
		"fn f(a: bool) { if a { } }",
		"fn f(a: bool) { if a { } else { } }",
		"fn f(a: bool): int { if a { return 1; } else { return 2; } }",
		"fn f(a: bool): int { if a { return 1; } else { } return 2; }",
		"fn f(a: bool): int { if a { } else { return 1; } return 2; }",
		"fn f(a: bool): int { if a { return 1; } else { return 2; } return 3; }",
		"fn f(a: bool) { if a { return; } else { return; } }",
		"fn f(a: bool) { if a { let b = 1; } else { let b = true; } let b = 1; b = b + b; }",
		"fn f(a: bool) { if a { if a { return; } else { return; } } else { if a { } else { return; } } }",
		"fn f() { for i = 0 to 10 { } }",
		"fn f(): int { for i = 0 to 10 { return i; } return 0; }",
		"fn f(): int { let s = 0; for i = 0 to 10 { for k = i to 10 { s = s + i * k; } } return s; }",
		"fn f() { for i = 0 to 10 { let a = i; let b = true; } let a = true; let i = true; }",
		"fn f() { for i = 0 to 10 { return; } for i = 0 to 1 { if i == 0 { return; } else { return; } } }",
		"fn f(): int { return f(); }",
		"fn f() { f(); }",
		"fn f(): int { f(); return 1; }",
		"fn f() { g(1, true); } fn g(a: int, b: bool): bytes { f(); return h(b, a); } fn h(b: bool, a: int): bytes { return g(a, b); }",
		"fn f() { g(h(), h()); } fn g(a: int, b: int) { } fn h(): int { g(1, h()); return 3; }",
		"fn f(): bool { return g() && g() || g(); } fn g(): bool { return f(); }",
	} {
		mustBuild(t, src)
	}
}

// P13.2: random sources with ifs, loops, calls and returns.
func TestCompiledRandom(t *testing.T) {
	source := rand.New(rand.NewSource(1))
	w := &writer{source: source}
	built, count := 0, map[api.Op]int{}
	for range 6000 {
		src := w.program()
		m, e, at := compile.Build([]byte(src))
		if e == api.ErrTooMany {
			continue
		}
		if e != api.OK {
			t.Fatalf("%s: %v, %d", src, e, at)
		}
		built++
		if e := Check(m); e != api.OK {
			t.Fatalf("%s: %v", src, e)
		}
		for _, c := range m.Codes {
			for _, i := range c.Instrs {
				count[i.Op]++
			}
		}
	}
	if built < 3000 {
		t.Errorf("only %d sources", built)
	}
	for op := api.OpGas; op <= api.OpReturn; op++ {
		if count[op] < 1000 {
			t.Errorf("only %d times %s", count[op], ops[op-1])
		}
	}
}

// nested is something so many times around another.
func nested(n int, head, core, tail string) string {
	return strings.Repeat(head, n) + core + strings.Repeat(tail, n)
}

// P13.2: the greatest sources.
func TestCompiledGreatest(t *testing.T) {
	for _, src := range []string{
		"fn f(): int { return " + nested(28, "1+(", "1", ")") + "; }",
		"fn f(): int { return " + nested(28, "-", "1", "") + "; }",
		"fn f(): bool { return " + nested(28, "!", "true", "") + "; }",
		"fn f(): bool { return " + nested(28, "true&&(", "true", ")") + "; }",
		"fn f(): bool { return " + nested(28, "true||(", "true", ")") + "; }",
		"fn f(): bytes { return " + nested(28, "get(", `"a"`, ")") + "; }",
		"fn f(a: int): int { return " + nested(28, "f(", "a", ")") + "; }",
		"fn f(): int { return 1" + strings.Repeat("+1", 1000) + "; }",
		"fn f(): bool { return true" + strings.Repeat("&&true", 500) + "; }",
		"fn f(): bool { return true" + strings.Repeat("||true", 500) + "; }",
		"fn f() { " + nested(28, "if true { ", "return; ", "} ") + "}",
		"fn f() { " + nested(28, "if true { } else { ", "return; ", "} ") + "}",
		"fn f() { " + strings.Repeat("return; ", 500) + "}",
		"fn f() { " + strings.Repeat("if true { } ", 300) + "}",
	} {
		mustBuild(t, src)
	}
	var funcs, calls, lets, loops, params, args strings.Builder
	for i := range 64 {
		n := strconv.Itoa(i)
		funcs.WriteString("fn f" + n + "() { f" + strconv.Itoa((i+1)%64) + "(); }\n")
		calls.WriteString("fn f" + n + "(a: bool): bool { return f" + strconv.Itoa(63-i) + "(!a); }\n")
		lets.WriteString("let v" + n + " = " + []string{"1", "true", `"a"`}[i%3] + "; ")
		loops.WriteString("for v" + n + " = 0 to 1 { } ")
	}
	for i := range 16 {
		n := strconv.Itoa(i)
		params.WriteString([]string{"", ", "}[min(i, 1)] + "p" + n + ": " + []string{"int", "bool", "bytes"}[i%3])
		args.WriteString([]string{"", ", "}[min(i, 1)] + "p" + n)
	}
	mustBuild(t, funcs.String())
	mustBuild(t, calls.String())
	mustBuild(t, "fn f() { "+lets.String()+"}")
	mustBuild(t, "fn f() { "+loops.String()+"}")
	mustBuild(t, "fn f("+params.String()+"): bytes { f("+args.String()+"); return f("+args.String()+"); }")
	deep := ""
	for i := range 28 {
		deep = "for v" + strconv.Itoa(i) + " = 0 to 1 { " + deep + "} "
	}
	mustBuild(t, "fn f() { "+deep+"}")
}
