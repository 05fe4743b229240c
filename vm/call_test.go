package vm

import (
	"strconv"
	"testing"

	"covenant/api"
)

// mustCall is mustDo for a module that changes nothing.
func mustCall(t *testing.T, want api.Outcome, m api.Module, args ...api.Value) {
	t.Helper()
	run{m: m, store: stored, args: args}.mustDo(t, want, stored)
}

// P14.1: the first argument was pushed first.
func TestOrderOfArguments(t *testing.T) {
	take := fn("take isb:i", 0, "load 0, load 1, len, two -, load 2, unless 7, return, one -, return")
	mustCall(t, ends(num(9), 0), module(fn("f :i", 0, "num 10, text 1, bool 1, call 1, return"), take))
	mustCall(t, ends(num(-9), 0), module(fn("f :i", 0, "num 10, text 1, bool 0, call 1, return"), take))
	for i := range int64(16) {
		m := module(fn("f :i", 0, ""), fn("g iiiiiiiiiiiiiiii:i", 0, "load "+strconv.FormatInt(i, 10)+", return"))
		for n := range int64(16) {
			m.Codes[0].Instrs = append(m.Codes[0].Instrs, api.Instr{Op: api.OpNum, A: n * n})
		}
		m.Codes[0].Instrs = append(m.Codes[0].Instrs, asm("call 1, return")...)
		mustCall(t, ends(num(i*i), 0), m)
	}
}

// P14.1: what stands on the stack below the arguments is there afterwards, with what was returned on top, if it is something.
func TestStackAcrossCalls(t *testing.T) {
	sum := fn("sum ii:i", 0, "gas 1, load 0, load 1, two +, return")
	none := fn("none i", 0, "gas 1, return")
	early := fn("early i:s", 3, "gas 1, text 4, store 3, load 3, return, text 1, return")
	with := func(kinds, instrs string) api.Module {
		return module(fn("f "+kinds, 2, instrs), sum, none, early)
	}
	mustCall(t, ends(num(70), 1), with(":i", "num 10, num 3, num 4, call 1, two *, return"))
	mustCall(t, ends(num(30), 1), with(":i", "num 10, num 3, num 4, call 2, two *, return"))
	mustCall(t, ends(num(10), 2), with(":i", "num 10, num 3, num 4, call 1, call 2, return"))
	mustCall(t, ends(num(17), 2), with(":i", "num 10, num 3, num 4, call 1, call 1, return"))
	mustCall(t, ends(num(1), 2), with(":i", "num 1, num 2, num 3, call 3, drop, call 2, return"))
	mustCall(t, ends(text(long(16)), 1), with(":s", "num 2, call 3, return"))
	mustCall(t, ends(num(16), 1), with(":i", "num 2, call 3, len, return"))
	mustCall(t, ends(api.Value{}, 1), with("", "num 2, call 3, drop, return"))
	mustCall(t, ends(api.Value{}, 1), with("", "num 2, call 2, return"))
}

// P14.1: nothing is returned if there is no Result, though functions within returned something.
func TestNothingIsReturned(t *testing.T) {
	for _, kind := range []string{"i", "b", "s"} {
		push := map[string]string{"i": "num 7", "b": "bool 1", "s": "text 1"}[kind]
		m := module(fn("f", 1, "call 1, store 0, return"), fn("g :"+kind, 0, push+", return"))
		mustCall(t, ends(api.Value{}, 0), m)
		m = module(fn("f", 1, "call 2, return"), fn("g :"+kind, 0, push+", return"), fn("h", 1, "call 1, drop, return"))
		mustCall(t, ends(api.Value{}, 0), m)
	}
}

// P14.1: each frame has slots and a stack of its own, which others do not see.
func TestFramesAreApart(t *testing.T) {
	own := fn("own i:i", 2, "num 100, store 0, num 200, store 1, num 300, store 2, load 0, return")
	m := module(fn("f i:i", 2, "num 2, store 1, num 3, store 2, num 4, load 0, call 1, drop, load 0, load 1, load 2, x3 two +, return"), own)
	mustCall(t, ends(num(10), 0), m, num(1))
	again := fn("g i:i", 1, "load 0, num 0, two ==, unless 6, num 1, return, load 0, load 0, store 1, load 0, num 1, two -, call 1, load 1, two *, store 0, drop, load 0, return")
	mustCall(t, ends(num(120), 0), module(fn("f i:i", 0, "load 0, call 1, return"), again), num(5))
}

// P14.1: the function itself, and one that calls back.
func TestRecursion(t *testing.T) {
	sum := fn("f i:i", 0, "gas 1, load 0, num 0, two ==, unless 7, num 0, return, load 0, load 0, num 1, two -, call 0, two +, return")
	for n := range int64(16) {
		mustCall(t, ends(num(n*(n+1)/2), n+1), module(sum), num(n))
	}
	even := fn("f i:b", 0, "gas 1, load 0, num 0, two ==, unless 7, bool 1, return, load 0, num 1, two -, call 1, return")
	odd := fn("odd i:b", 0, "gas 1, load 0, num 0, two ==, unless 7, bool 0, return, load 0, num 1, two -, call 0, return")
	for n := range int64(16) {
		mustCall(t, ends(truth(n%2 == 0), n+1), module(even, odd), num(n))
	}
	mustCall(t, traps(api.TrapDepth, 16), module(even, odd), num(16))
}

// P14.1: sixteen frames, and one more; the arguments of the call that traps were there already.
func TestDepth(t *testing.T) {
	mustCall(t, traps(api.TrapDepth, 0), module(fn("f", 0, "call 0, return")))
	mustCall(t, traps(api.TrapDepth, 16), module(fn("f", 0, "gas 1, call 0, return")))
	mustCall(t, traps(api.TrapDepth, 16*3), module(fn("f i:i", 0, "gas 1, load 0, gas 2, call 0, return")), num(1))
	for frames := 1; frames <= 18; frames++ {
		for _, head := range []string{"f", "f :i"} {
			m, end := module(), "return"
			if head != "f" {
				end = "num 5, return"
			}
			for i := range frames - 1 {
				m.Codes = append(m.Codes, fn(head, 0, "gas 1, call "+strconv.Itoa(i+1)+", return"))
			}
			m.Codes = append(m.Codes, fn(head, 0, "gas 1, "+end))
			for i := range m.Codes[1:] {
				m.Codes[i+1].Name = "f" + strconv.Itoa(i)
			}
			want := ends(api.Value{}, int64(frames))
			if head != "f" {
				want.Value = num(5)
			}
			if frames > 16 {
				want = traps(api.TrapDepth, 16)
			}
			mustCall(t, want, m)
		}
	}
}

// P14.1: functions that have ended do not count as frames.
func TestDepthEndsWithFunctions(t *testing.T) {
	leaf := fn("leaf", 0, "gas 1, return")
	mustCall(t, ends(api.Value{}, 100), module(fn("f", 0, "x100 call 1, return"), leaf))
	nested := fn("nested i", 0, "gas 1, load 0, num 0, two ==, unless 6, return, load 0, num 1, two -, call 1, load 0, num 1, two -, drop, return")
	mustCall(t, ends(api.Value{}, 15*4), module(fn("f", 0, "num 14, call 1, num 14, call 1, num 14, call 1, num 14, call 1, return"), nested))
	mustCall(t, traps(api.TrapDepth, 15*2), module(fn("f", 0, "num 14, call 1, num 15, call 1, return"), nested))
	tree := fn("f i:i", 0, "load 0, num 0, two ==, unless 6, num 1, return, load 0, num 1, two -, call 0, load 0, num 1, two -, call 0, two +, return")
	mustCall(t, ends(num(1<<7), 0), module(tree), num(7))
}

// P14.1: a call traps ahead of what the function would do.
func TestTrapsWithinCalls(t *testing.T) {
	zero := fn("zero i:i", 0, "gas 2, load 0, num 0, two /, return")
	mustCall(t, traps(api.TrapDiv, 3), module(fn("f :i", 0, "gas 1, num 1, call 1, gas 1, return"), zero))
	mustCall(t, traps(api.TrapDiv, 3), module(fn("f :i", 0, "gas 1, num 1, call 2, gas 1, return"), zero, fn("g i:i", 0, "load 0, call 1, gas 1, return")))
	deep := fn("f i:i", 0, "gas 1, load 0, num 1, two -, store 0, num 1, load 0, two /, drop, load 0, call 0, return")
	mustCall(t, traps(api.TrapDiv, 5), module(deep), num(5))
	mustCall(t, traps(api.TrapDiv, 16), module(deep), num(16))
	mustCall(t, traps(api.TrapDepth, 16), module(deep), num(17))
}
