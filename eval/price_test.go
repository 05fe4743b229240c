package eval

import (
	"math"
	"strconv"
	"testing"

	"covenant/api"
)

// stored is what the functions of these tests find.
const stored = "a=1 k=0123456789abcdef"

// around is a program in which f does what a body says, with n 5, t true, u false, s "abc", and functions to call.
func around(result, body string) string {
	return "fn f(n: int, t: bool, u: bool, s: bytes)" + result + " { " + body + ` }
		fn nothing() { }
		fn one(): int { return 1; }
		fn twice(x: int): int { return x + x; }
		fn three(x: int, y: bool, z: bytes): bytes { let n = x; if y { return z; } return "no"; }
		fn never(x: int): bool { return 1 / 0 == x; }`
}

// mustCost fails unless f does what a body says in one way with this gas, and in none with less.
func mustCost(t *testing.T, result, body string, want api.Outcome, after string) {
	t.Helper()
	t.Log(body)
	x := run{prog: front(t, around(result, body)), store: stored, args: []api.Value{num(5), truth(true), truth(false), text("abc")}}
	x.mustDo(t, want, after)
}

// mustValue is mustCost for an expression, with its price alone.
func mustValue(t *testing.T, expr string, v api.Value, price int64) {
	t.Helper()
	kind := [...]string{api.TypeInt: ": int", api.TypeBool: ": bool", api.TypeBytes: ": bytes"}[v.Type]
	mustCost(t, kind, "return "+expr+";", ends(v, 1+price), stored)
}

// mustTrap is mustValue for an expression that traps when it has used so much.
func mustTrap(t *testing.T, expr string, trap api.Trap, price int64) {
	t.Helper()
	mustCost(t, "", "let x = "+expr+";", traps(trap, 1+price), "")
}

// P10.1: expressions that stand alone, and the signs of ints and bools.
func TestPricesOfValues(t *testing.T) {
	mustValue(t, "0", num(0), 1)
	mustValue(t, "9223372036854775807", num(math.MaxInt64), 1)
	mustValue(t, "true", truth(true), 1)
	mustValue(t, "false", truth(false), 1)
	mustValue(t, `""`, text(""), 1)
	mustValue(t, `"`+long(64)+`"`, text(long(64)), 1)
	mustValue(t, "n", num(5), 1)
	mustValue(t, "t", truth(true), 1)
	mustValue(t, "u", truth(false), 1)
	mustValue(t, "s", text("abc"), 1)
	mustValue(t, "-n", num(-5), 2)
	mustValue(t, "--n", num(5), 3)
	mustValue(t, "!t", truth(false), 2)
	mustValue(t, "!!t", truth(true), 3)
	mustValue(t, "n + 1", num(6), 3)
	mustValue(t, "1 - n", num(-4), 3)
	mustValue(t, "n * n", num(25), 3)
	mustValue(t, "-7 / 2", num(-3), 4)
	mustValue(t, "-7 % 2", num(-1), 4)
	mustValue(t, "1 + 2 * 3 - 4", num(3), 7)
	for _, x := range []struct {
		sign                 string
		less, equal, greater bool
	}{
		{"<", true, false, false}, {"<=", true, true, false}, {">", false, false, true},
		{">=", false, true, true}, {"==", false, true, false}, {"!=", true, false, true},
	} {
		mustValue(t, "4 "+x.sign+" n", truth(x.less), 3)
		mustValue(t, "n "+x.sign+" 5", truth(x.equal), 3)
		mustValue(t, "6 "+x.sign+" n", truth(x.greater), 3)
	}
	mustValue(t, "t == u", truth(false), 3)
	mustValue(t, "t != u", truth(true), 3)
	mustValue(t, `s == "abc"`, truth(true), 3)
	mustValue(t, `s != "abc"`, truth(false), 3)
}

// P10.1: && and || do nothing with a second Kid that they do not need, though it would trap.
func TestPricesOfAndOr(t *testing.T) {
	wrong := []struct {
		expr string
		trap api.Trap
		used int64
	}{
		{"1 / 0 == n", api.TrapDiv, 4},
		{"-9223372036854775807 - 2 < n", api.TrapRange, 5},
		{"never(n)", api.TrapDiv, 2 + 5},
		{"(u || t && (u || u || 7 % (n - 5) < 1))", api.TrapDiv, 14},
	}
	for _, sign := range []string{"&&", "||"} {
		for _, first := range []bool{false, true} {
			left := strconv.FormatBool(first) + " " + sign + " "
			if first != (sign == "&&") {
				mustValue(t, left+"t", truth(first), 2)
				mustValue(t, left+"u", truth(first), 2)
				for _, x := range wrong {
					mustValue(t, left+x.expr, truth(first), 2)
				}
				continue
			}
			mustValue(t, left+"t", truth(true), 3)
			mustValue(t, left+"u", truth(false), 3)
			for _, x := range wrong {
				mustTrap(t, left+x.expr, x.trap, 2+x.used)
			}
		}
		mustTrap(t, "1 / 0 == 0 "+sign+" t", api.TrapDiv, 5)
	}
	mustValue(t, "u && never(1) || t", truth(true), 4)
	mustValue(t, "t || never(1) && never(2)", truth(true), 2)
	mustValue(t, "t && u && never(1)", truth(false), 4)
}

// P10.1: the sum of two bytes costs one for each 16, ahead of whether it is too long.
func TestPricesOfSums(t *testing.T) {
	sum := func(a, b int) string { return `"` + long(a) + `" + "` + long(b) + `"` }
	mustValue(t, `"" + ""`, text(""), 3)
	mustValue(t, `s + "d"`, text("abcd"), 3)
	mustValue(t, sum(15, 0), text(long(15)), 3)
	mustValue(t, sum(8, 8), text(long(16)), 3+1)
	mustValue(t, sum(16, 15), text(long(31)), 3+1)
	mustValue(t, sum(31, 1), text(long(32)), 3+2)
	mustValue(t, sum(64, 64), text(long(128)), 3+8)
	p := front(t, "fn f(a: bytes, b: bytes): bytes { return a + b; }")
	sums := func(a, b int, want api.Outcome) {
		t.Helper()
		run{prog: p, args: []api.Value{text(long(a)), text(long(b))}}.mustDo(t, want, "")
	}
	sums(0, 256, ends(text(long(256)), 4+16))
	sums(256, 0, ends(text(long(256)), 4+16))
	sums(128, 128, ends(text(long(256)), 4+16))
	sums(127, 128, ends(text(long(255)), 4+15))
	sums(1, 256, traps(api.TrapSize, 4+16))
	sums(256, 1, traps(api.TrapSize, 4+16))
	sums(16, 256, traps(api.TrapSize, 4+17))
	sums(256, 256, traps(api.TrapSize, 4+32))
	mustBe(t, "fn f(a: bytes): bool { return a + a + (a + a) == a; }", traps(api.TrapSize, 3+(3+16)+(3+16)+32), text(long(128)))
}

// P10.1.
func TestPricesOfReading(t *testing.T) {
	mustValue(t, `get("a")`, text("1"), 2+2)
	mustValue(t, `get("k")`, text("0123456789abcdef"), 2+2)
	mustValue(t, `get("")`, text(""), 2+2)
	mustValue(t, `get("b")`, text(""), 2+2)
	mustValue(t, `has("a")`, truth(true), 2+2)
	mustValue(t, `has("b")`, truth(false), 2+2)
	mustValue(t, `has("")`, truth(false), 2+2)
	mustValue(t, `len("")`, num(0), 2)
	mustValue(t, `len(s)`, num(3), 2)
	mustValue(t, `len("`+long(64)+`")`, num(64), 2)
	mustValue(t, `len(get("k"))`, num(16), 3+2)
	mustValue(t, `get("`+long(64)+`" + "x")`, text(""), 4+4+2)
	mustValue(t, `has("`+long(64)+`" + "x")`, truth(false), 4+4+2)
	mustTrap(t, `get(get(three(1 / 0, t, s)))`, api.TrapDiv, 3+3)
}

// P10.1: a call costs its Kids and what the function does.
func TestPricesOfCalls(t *testing.T) {
	mustValue(t, "one()", num(1), 1+2)
	mustValue(t, "twice(n)", num(10), 2+4)
	mustValue(t, "twice(twice(one()))", num(4), 1+1+(1+2)+4+4)
	mustValue(t, "three(0, t, s)", text("abc"), 4+6)
	mustValue(t, "three(0, u, s)", text("no"), 4+6)
	mustCost(t, "", "nothing();", ends(api.Value{}, 2), stored)
	mustCost(t, "", "one();", ends(api.Value{}, 2+2), stored)
	mustCost(t, "", "nothing(); nothing(); twice(1);", ends(api.Value{}, 2+2+3+4), stored)
	mustTrap(t, "twice(9223372036854775807)", api.TrapRange, 2+4)
	mustTrap(t, "twice(1 % 0)", api.TrapDiv, 1+3)
	mustTrap(t, "never(0)", api.TrapDiv, 2+5)
}

// P10.1.
func TestPricesOfStatements(t *testing.T) {
	free := func(body string, price int64) {
		t.Helper()
		mustCost(t, "", body, ends(api.Value{}, price), stored)
	}
	free("", 0)
	free("return;", 1)
	free("let x = 1;", 2)
	free("let x = n + 1;", 4)
	free("let x = 1; x = 2;", 4)
	free("n = n + 1;", 4)
	free("if t { }", 2)
	free("if u { }", 2)
	free("if u { } else { }", 2)
	free("if t { n = 1; } else { n = 1; n = 2; }", 4)
	free("if u { n = 1; } else { n = 1; n = 2; }", 6)
	free("if u { n = 1; }", 2)
	free("if n > 4 && t { n = 1; }", 1+5+2)
	mustCost(t, ": int", "return 7;", ends(num(7), 2), stored)
	mustCost(t, ": int", "if t { return 7; } return 8;", ends(num(7), 4), stored)
	mustCost(t, ": int", "if u { return 7; } return 8;", ends(num(8), 4), stored)
	mustCost(t, ": int", "if u { return 7; } else { return 8; }", ends(num(8), 4), stored)
}

// P10.1.
func TestPricesOfLoops(t *testing.T) {
	free := func(body string, price int64) {
		t.Helper()
		mustCost(t, "", body, ends(api.Value{}, price), stored)
	}
	free("for i = 0 to 3 { }", 3+3)
	free("for i = 3 to 3 { }", 3)
	free("for i = 4 to 3 { n = 1; }", 3)
	free("for i = 0 to 1 { }", 3+1)
	free("for i = -2 to 2 { }", 4+4)
	free("for i = n - 5 to n + 5 { let x = i; }", 1+3+3+10*(1+2))
	free("for i = 0 to n { for k = i to n { } }", 3+5*(1+3)+15)
	free("for i = 0 to n { if i == 3 { return; } }", 3+4*(1+4)+1)
	free("for i = 9223372036854775807 to 9223372036854775807 { }", 3)
	free("for i = 9223372036854775807 to -9223372036854775807 - 1 { n = 1; }", 1+1+4)
	free("for i = 9223372036854775805 to 9223372036854775807 { n = i; }", 3+2*3)
	free("for i = -9223372036854775807 - 1 to -9223372036854775807 + 1 { n = i; }", 1+4+4+2*3)
}

// P10.1, P10.2: what is put and deleted, and what has no room.
func TestPricesOfWriting(t *testing.T) {
	mustCost(t, "", `put("b", "2");`, ends(api.Value{}, 3+4), "a=1 b=2 k=0123456789abcdef")
	mustCost(t, "", `put("a", s);`, ends(api.Value{}, 3+4), "a=abc k=0123456789abcdef")
	mustCost(t, "", `put("a", "");`, ends(api.Value{}, 3+4), "a= k=0123456789abcdef")
	mustCost(t, "", `put("", "");`, ends(api.Value{}, 3+4), "= "+stored)
	mustCost(t, "", `put("z", "`+long(14)+`");`, ends(api.Value{}, 3+4), stored+" z="+long(14))
	mustCost(t, "", `put("z", "`+long(15)+`");`, ends(api.Value{}, 3+5), stored+" z="+long(15))
	mustCost(t, "", `put("z2345678", "`+long(24)+`");`, ends(api.Value{}, 3+6), stored+" z2345678="+long(24))
	mustCost(t, "", `put(s, s + s); put("a", get(s));`, ends(api.Value{}, 5+4+(4+2)+4), "a=abcabc abc=abcabc k=0123456789abcdef")
	mustCost(t, "", `del("a");`, ends(api.Value{}, 2+4), "k=0123456789abcdef")
	mustCost(t, "", `del("b");`, ends(api.Value{}, 2+4), stored)
	mustCost(t, "", `del("");`, ends(api.Value{}, 2+4), stored)
	mustCost(t, "", `del("a"); del("a"); del("k");`, ends(api.Value{}, 3*6), "")
	mustCost(t, "", `del("a"); put("a", "2");`, ends(api.Value{}, 6+7), "a=2 k=0123456789abcdef")
	mustCost(t, "", `del("`+long(64)+`" + "x");`, ends(api.Value{}, 1+3+4+4), stored)
	mustCost(t, ": int", `put("b", "2"); return len(get("b"));`, ends(num(1), 7+4+2), "a=1 b=2 k=0123456789abcdef")
}

// P10.1, P10.2: the gas of a put is used ahead of whether there is room.
func TestPricesOfPutsThatTrap(t *testing.T) {
	p := front(t, "fn f(key: bytes, value: bytes) { put(key, value); }")
	put := func(store string, key, value int, trap api.Trap, after string) {
		t.Helper()
		x := run{prog: p, store: store, args: []api.Value{text(long(key)), text(long(value))}}
		x.mustDo(t, api.Outcome{Trap: trap, Used: 3 + 4 + int64(key+value)/16}, after)
	}
	put("a=1", 64, 256, api.TrapNone, "a=1 "+long(64)+"="+long(256))
	put("a=1", 65, 0, api.TrapSize, "")
	put("a=1", 65, 256, api.TrapSize, "")
	put("a=1", 256, 256, api.TrapSize, "")
	put(full(), 65, 0, api.TrapSize, "")
	put(full(), 0, 0, api.TrapQuota, "")
	put(full(), 64, 256, api.TrapQuota, "")
	short := "b=" + full()[3:]
	put(short, 1, 0, api.TrapQuota, "")
	put("a=1", 0, 0, api.TrapNone, "= a=1")
	x := run{prog: front(t, `fn f(v: bytes) { put("b", v); put("x", ""); }`), store: full()}
	for n, want := range map[int]api.Outcome{
		256: traps(api.TrapQuota, 7+16+7),
		248: traps(api.TrapQuota, 7+15+7),
		247: ends(api.Value{}, 7+15+7),
		0:   ends(api.Value{}, 7+7),
	} {
		x.args = []api.Value{text(long(n))}
		x.mustDo(t, want, "b="+long(n)+full()[2+256:]+" x=")
	}
}
