package vm

import (
	"strconv"
	"testing"

	"covenant/api"
	"covenant/journal"
	"covenant/verify"
)

// idleFor is a module in which a call of the Code n, counted with what it does, is exactly so many instructions that use no gas, for each n of lengths. The Codes 1 and 2 are parts of these.
func idleFor(f string, lengths ...int) api.Module {
	const whole = 16000
	m := module(fn(f, 0, ""), fn("whole", 0, "x"+strconv.Itoa(whole-2)+" gas 0, return"))
	m.Codes[0].Instrs = nil
	for i, n := range lengths {
		c := fn("idle"+strconv.Itoa(i), 0, "")
		c.Instrs = nil
		// The call of this Code and its return are two of them.
		for n -= 2; n >= whole; n -= whole {
			c.Instrs = append(c.Instrs, asm("call 1")...)
		}
		c.Instrs = append(c.Instrs, asm("x"+strconv.Itoa(n)+" gas 0, return")...)
		m.Codes = append(m.Codes, c)
	}
	return m
}

// mustRun runs f alone with a limit.
func mustRun(t *testing.T, m api.Module, limit int64, want api.Outcome, args ...api.Value) {
	t.Helper()
	if e := verify.Check(m); e != api.OK {
		t.Fatalf("the module of the test is not safe: %v", e)
	}
	j := changed(t, stored)
	if o := Run(m, "f", args, j, limit); !same(o, want) || o.Trap != api.TrapNone && tell(j.Pairs()) != stored {
		t.Fatalf("limit %d: %s, %q; want %s", limit, told(o), tell(j.Pairs()), told(want))
	}
}

// P14.1: 65,535 instructions in a row, of which the last one returns; and one more, which is not executed.
func TestIdleReturn(t *testing.T) {
	for n, want := range map[int]api.Outcome{65534: ends(api.Value{}, 0), 65535: ends(api.Value{}, 0), 65536: traps(api.TrapGas, 77), 65537: traps(api.TrapGas, 77)} {
		m := idleFor("f", n-1)
		m.Codes[0].Instrs = asm("call 2, return")
		mustRun(t, m, 77, want)
		want.Used = min(want.Used, 0)
		mustRun(t, m, 0, want)
		mustRun(t, m, -1, want)
	}
}

// P14.1: jumps that lead behind count like all others.
func TestIdleLoops(t *testing.T) {
	for _, instrs := range []string{"jump 0", "gas 0, jump 0", "bool 0, unless 0, return", "num 1, drop, jump 0", "text 1, num 1, jump 3, drop, drop, jump 0"} {
		for _, limit := range []int64{0, 1, 50, 99999, api.MaxGas} {
			mustRun(t, module(fn("f", 0, instrs)), limit, traps(api.TrapGas, limit))
		}
		mustRun(t, module(fn("f", 0, instrs)), api.MaxGas+1, traps(api.TrapGas, api.MaxGas))
	}
	// A round has nine instructions; there are two ahead of the first one, and five behind the last one.
	const loop = "num 0, store 1, load 1, load 0, two <, unless 11, load 1, num 1, two +, store 1, jump 2, return"
	const rounds = (65535 - 2 - 5) / 9
	mustRun(t, module(fn("f i", 1, loop)), 5, ends(api.Value{}, 0), num(rounds))
	mustRun(t, module(fn("f i", 1, loop)), 5, traps(api.TrapGas, 5), num(rounds+1))
}

// P14.1: an OpGas 0 counts as the others do; an OpGas of more begins anew, also as the 65,536th.
func TestIdleGas(t *testing.T) {
	for _, x := range []struct {
		first  int
		gas    string
		second int
		want   api.Outcome
	}{
		{65535, "gas 1", 65534, ends(api.Value{}, 1)},
		{65535, "gas 3", 65534, ends(api.Value{}, 3)},
		{65535, "gas 1", 65535, traps(api.TrapGas, 9)},
		{65536, "gas 1", 2, traps(api.TrapGas, 9)},
		{65535, "gas 0", 2, traps(api.TrapGas, 9)},
		{65534, "gas 0", 2, traps(api.TrapGas, 9)},
		{65000, "gas 1, gas 0", 65533, ends(api.Value{}, 1)},
		{65000, "gas 1, gas 0", 65534, traps(api.TrapGas, 9)},
		{65000, "gas 0, gas 1", 65534, ends(api.Value{}, 1)},
		{65000, "gas 1, gas 1", 65534, ends(api.Value{}, 2)},
		{65535, "gas 10", 2, traps(api.TrapGas, 9)},
		{30000, "gas 0", 35533, ends(api.Value{}, 0)},
		{30000, "gas 0", 35534, traps(api.TrapGas, 9)},
	} {
		m := idleFor("f", x.first, x.second)
		m.Codes[0].Instrs = asm("call 2, " + x.gas + ", call 3, return")
		mustRun(t, m, 9, x.want)
	}
	m := idleFor("f", 65535)
	m.Codes[0].Instrs = asm("call 2, gas 1, call 2, gas 1, call 2, gas 1, return")
	mustRun(t, m, 3, ends(api.Value{}, 3))
	mustRun(t, m, 2, traps(api.TrapGas, 2))
}

// P14.1: what uses gas otherwise than by OpGas counts like all others.
func TestIdleCountsAll(t *testing.T) {
	for instrs, used := range map[string]int64{
		"text 1, get, drop": 2, "text 1, has, drop": 2, "text 1, text 2, put": 4, "text 1, del": 4,
		"text 4, text 4, two +, drop": 2, "text 1, len, drop": 0, "num 1, num 2, two <, drop": 0, "num 1, one -, drop": 0,
		"num 1, store 0": 0, "load 0, drop": 0, "jump 2": 0, "bool 1, unless 3": 0, "bool 0, unless 3": 0, "call 1": 0,
	} {
		instrs = "call 3, " + instrs
		n := len(asm(instrs)) - 1
		if instrs == "call 3, call 1" {
			n = 16000
		}
		m := idleFor("f i", 2, 65535-n-1)
		m.Codes[0].Instrs = asm(instrs + ", return")
		mustRun(t, m, 500, ends(api.Value{}, used), num(1))
		m = idleFor("f i", 2, 65535-n)
		m.Codes[0].Instrs = asm(instrs + ", return")
		mustRun(t, m, 500, traps(api.TrapGas, 500), num(1))
	}
}

// P14.1: the 65,536th instruction is not executed, whatever it is: also one that would trap for another reason.
func TestIdleIsNotExecuted(t *testing.T) {
	for _, x := range []struct {
		instrs string
		number int // of the one that traps
		want   api.Outcome
	}{
		{"num 1, num 0, two /, drop", 3, traps(api.TrapDiv, 0)},
		{"num 9223372036854775807, num 1, two +, drop", 3, traps(api.TrapRange, 0)},
		{"num -9223372036854775808, one -, drop", 2, traps(api.TrapRange, 0)},
		{"load 0, text 1, two +, drop", 3, traps(api.TrapSize, 16)},
		{"load 0, text 1, put", 3, traps(api.TrapSize, 20)},
		{"call 4", 16, traps(api.TrapDepth, 0)},
	} {
		for more, want := range map[int]api.Outcome{0: x.want, 1: traps(api.TrapGas, 500)} {
			m := idleFor("f s", 2, 65535-x.number+more)
			m.Codes = append(m.Codes, fn("deep", 0, "call 4, return"))
			m.Codes[0].Instrs = asm("call 3, " + x.instrs + ", return")
			mustRun(t, m, 500, want, text(long(256)))
		}
	}
}

// P14.3: a run ends though each OpGas is followed by as many instructions as may be.
func TestLongestRun(t *testing.T) {
	m := idleFor("f", 65534)
	m.Codes[0].Instrs = asm("gas 1, call 2, jump 0")
	mustRun(t, m, 100, traps(api.TrapGas, 100))
	m = idleFor("f", 65535)
	m.Codes[0].Instrs = asm("gas 1, call 2, jump 0")
	mustRun(t, m, 100, traps(api.TrapGas, 100))
}

// P14.1: the instructions of earlier runs do not count.
func TestIdleOfOtherRuns(t *testing.T) {
	m := idleFor("f", 65534)
	m.Codes[0].Instrs = asm("call 2, return")
	j := journal.New(nil)
	for range 4 {
		if o := Run(m, "f", nil, j, 5); !same(o, ends(api.Value{}, 0)) {
			t.Fatal(told(o))
		}
	}
}
