package vm

import (
	"math"
	"testing"

	"covenant/api"
	"covenant/journal"
)

// good is a module with functions of several kinds, all of which can be run.
func good() api.Module {
	return module(
		fn("f is:i", 0, "text 2, load 1, put, load 0, return"),
		fn("g", 0, "return"),
		fn("h b:b", 0, "load 0, return"),
		fn("", 0, "return"),
	)
}

// goodArgs are arguments that f takes.
func goodArgs() []api.Value { return []api.Value{num(1), text("new")} }

// mustRefuse fails unless a call is TrapCall, with nothing beside it, whatever the limit, and changes nothing.
func mustRefuse(t *testing.T, m api.Module, name string, args ...api.Value) {
	t.Helper()
	for _, limit := range []int64{math.MinInt64, -1, 0, 1, 100, api.MaxGas, api.MaxGas + 1, math.MaxInt64} {
		j := changed(t, stored)
		mark := j.Mark()
		for _, o := range []api.Outcome{Run(m, name, args, j, limit), Run(m, name, args, nil, limit)} {
			if !same(o, traps(api.TrapCall, 0)) {
				t.Fatalf("%q with %d arguments, limit %d: %s; want TrapCall", name, len(args), limit, told(o))
			}
		}
		if got := tell(j.Pairs()); got != stored || j.Mark() != mark {
			t.Fatalf("%q: the store is %q at mark %d", name, got, j.Mark())
		}
	}
}

// mustTake fails unless a call can be run.
func mustTake(t *testing.T, m api.Module, name string, args ...api.Value) {
	t.Helper()
	if o := Run(m, name, args, changed(t, stored), 100); o.Trap != api.TrapNone {
		t.Fatalf("%q with %d arguments: %s", name, len(args), told(o))
	}
}

// P14.1: there must be a journal, of whatever kind.
func TestNoJournal(t *testing.T) {
	mustTake(t, good(), "f", goodArgs()...)
	for _, limit := range []int64{-1, 0, 1, 100, api.MaxGas} {
		for _, name := range []string{"f", "g", "h", "", "x"} {
			for _, args := range [][]api.Value{nil, goodArgs(), {truth(true)}} {
				if o := Run(good(), name, args, nil, limit); !same(o, traps(api.TrapCall, 0)) {
					t.Errorf("%q, limit %d: %s", name, limit, told(o))
				}
			}
		}
	}
	if o := Run(good(), "f", goodArgs(), &journal.Journal{}, 100); !same(o, ends(num(1), 4)) {
		t.Error(told(o))
	}
}

// spoils are changes that each make a module one that may not be run, though f is as it was.
func spoils() map[string]func(m *api.Module) {
	greatText := make([]byte, api.MaxText+1)
	return map[string]func(m *api.Module){
		"a text is too long":          func(m *api.Module) { m.Texts = append(m.Texts, greatText) },
		"there are too many texts":    func(m *api.Module) { m.Texts = append(m.Texts, make([][]byte, api.MaxRow)...) },
		"there are too many codes":    func(m *api.Module) { m.Codes = append(m.Codes, make([]api.Code, api.MaxCodes)...) },
		"a name is too long":          func(m *api.Module) { m.Codes[1].Name = "a_name_of_17_byte" },
		"a type that there is not":    func(m *api.Module) { m.Codes[2].Params[0] = 4 },
		"a result that there is not":  func(m *api.Module) { m.Codes[1].Result = -1 },
		"fewer slots than parameters": func(m *api.Module) { m.Codes[0].Slots = 1 },
		"too many slots":              func(m *api.Module) { m.Codes[1].Slots = api.MaxSlots + 1 },
		"an op that there is not":     func(m *api.Module) { m.Codes[1].Instrs = append(m.Codes[1].Instrs, api.Instr{Op: 19}) },
		"an op 0 behind the return":   func(m *api.Module) { m.Codes[1].Instrs = append(m.Codes[1].Instrs, api.Instr{}) },
		"two names are the same":      func(m *api.Module) { m.Codes[1].Name = "h" },
		"f is there twice":            func(m *api.Module) { m.Codes[1] = m.Codes[0] },
		"no instructions":             func(m *api.Module) { m.Codes[3].Instrs = nil },
		"no return":                   func(m *api.Module) { m.Codes[3].Instrs = asm("gas 1") },
		"a jump out of it":            func(m *api.Module) { m.Codes[3].Instrs = asm("jump 1") },
		"nothing to pop":              func(m *api.Module) { m.Codes[3].Instrs = asm("drop, return") },
		"more than the result":        func(m *api.Module) { m.Codes[2].Instrs = asm("num 1, load 0, return") },
		"another result":              func(m *api.Module) { m.Codes[2].Instrs = asm("num 1, return") },
		"a slot that is not stored":   func(m *api.Module) { m.Codes[2].Slots = 2; m.Codes[2].Instrs = asm("load 1, return") },
		"gas that is negative":        func(m *api.Module) { m.Codes[1].Instrs = asm("gas -1, return") },
		"gas that is too much":        func(m *api.Module) { m.Codes[1].Instrs = asm("gas 100001, return") },
		"a call of nothing":           func(m *api.Module) { m.Codes[1].Instrs = asm("call 4, return") },
		"a text that there is not":    func(m *api.Module) { m.Codes[1].Instrs = asm("text 6, drop, return") },
		"a sign that there is not":    func(m *api.Module) { m.Codes[1].Instrs = asm("num 1, num 1, two !, drop, return") },
		"a sign for other types":      func(m *api.Module) { m.Codes[1].Instrs = asm("num 1, bool 1, two ==, drop, return") },
	}
}

// P14.1: a module that is not valid, or not safe, runs none of its functions.
func TestUnsafeModules(t *testing.T) {
	for why, spoil := range spoils() {
		m := good()
		spoil(&m)
		t.Log(why)
		mustRefuse(t, m, "f", goodArgs()...)
		mustRefuse(t, m, "g")
		mustRefuse(t, m, "h", truth(true))
	}
	mustRefuse(t, api.Module{}, "")
	mustRefuse(t, api.Module{}, "f")
	mustRefuse(t, api.Module{Codes: []api.Code{{Name: "f"}}}, "f")
}

// P14.1: the function is the one with the Name, byte by byte.
func TestNames(t *testing.T) {
	for _, name := range []string{"F", "x", "ff", "f ", " f", "f\x00", "fg", "a_name_that_no_function_of_the_module_has"} {
		mustRefuse(t, good(), name, goodArgs()...)
		mustRefuse(t, good(), name)
	}
	mustTake(t, good(), "g")
	mustTake(t, good(), "")
	m := good()
	for i, name := range []string{"\xff\x00", "sixteen_bytes_it", "f.g", "é"} {
		m.Codes[i].Name = name
	}
	mustTake(t, m, "\xff\x00", goodArgs()...)
	mustTake(t, m, "sixteen_bytes_it")
	mustTake(t, m, "f.g", truth(true))
	mustTake(t, m, "é")
	mustRefuse(t, m, "f", goodArgs()...)
	mustRefuse(t, m, "")
}

// P14.1: each function of a module can be run, wherever it stands.
func TestEachFunction(t *testing.T) {
	m := module()
	for i := range int64(api.MaxCodes) {
		c := fn("f :i", 0, "num 0, return")
		c.Name, c.Instrs[0].A = "f"+string(rune('0'+i)), i*i
		m.Codes = append(m.Codes, c)
	}
	for i, c := range m.Codes {
		if o := Run(m, c.Name, nil, journal.New(nil), 0); !same(o, ends(num(int64(i*i)), 0)) {
			t.Errorf("%q: %s", c.Name, told(o))
		}
	}
}

// P14.1: there are as many arguments as parameters, and each fits.
func TestArguments(t *testing.T) {
	n, s := num(1), text("new")
	for _, args := range [][]api.Value{
		nil, {n}, {s}, {n, s, n}, {n, s, {}}, {{}, n, s}, {s, n}, {n, n}, {s, s}, {{}, {}}, {n, {}}, {{}, s},
		{truth(true), s}, {n, truth(true)},
		{{Type: 4, Num: 1}, s}, {{Type: -1, Num: 1}, s}, {n, {Type: 4}},
		{{Type: api.TypeInt, Num: 1, Text: []byte("a")}, s},
		{n, {Type: api.TypeBytes, Num: 1, Text: []byte("new")}},
		{n, {Type: api.TypeBytes, Num: -1}},
		{n, text(long(257))},
		make([]api.Value, 17),
	} {
		mustRefuse(t, good(), "f", args...)
	}
	mustRefuse(t, good(), "g", n)
	mustRefuse(t, good(), "g", api.Value{})
	mustRefuse(t, good(), "h", n)
	mustRefuse(t, good(), "h", api.Value{Type: api.TypeBool, Num: 1, Text: []byte("a")})
	for _, v := range []api.Value{num(math.MaxInt64), num(math.MinInt64), num(0), {Type: api.TypeInt, Text: []byte{}}} {
		mustTake(t, good(), "f", v, s)
	}
	mustTake(t, good(), "f", n, text(long(256)))
	mustTake(t, good(), "f", n, api.Value{Type: api.TypeBytes})
}

// P14.1: of a bool any Num other than 1 is false, and it is returned as it came if it is only passed on.
func TestBoolArguments(t *testing.T) {
	passed, turned := module(fn("f b:b", 0, "load 0, return")), module(fn("f b:b", 0, "load 0, one !, return"))
	chosen := module(fn("f b:i", 0, "load 0, unless 4, num 1, return, num 2, return"))
	for _, n := range []int64{0, 1, 2, -1, math.MaxInt64, math.MinInt64} {
		args := []api.Value{{Type: api.TypeBool, Num: n}}
		run{m: passed, args: args}.mustDo(t, ends(args[0], 0), "")
		run{m: turned, args: args}.mustDo(t, ends(truth(n != 1), 0), "")
		want := int64(2)
		if n == 1 {
			want = 1
		}
		run{m: chosen, args: args}.mustDo(t, ends(num(want), 0), "")
	}
}

// P14.1, P2: several things that are wrong are TrapCall as well.
func TestSeveralFaults(t *testing.T) {
	for why, spoil := range spoils() {
		m := good()
		spoil(&m)
		t.Log(why)
		mustRefuse(t, m, "x", goodArgs()...)
		mustRefuse(t, m, "f")
		mustRefuse(t, m, "f", num(1), num(1))
		mustRefuse(t, m, "x", make([]api.Value, 3)...)
		for other, spoilMore := range spoils() {
			n := good()
			spoil(&n)
			spoilMore(&n)
			if o := Run(n, "f", goodArgs(), changed(t, stored), 100); why != other && !same(o, traps(api.TrapCall, 0)) {
				t.Errorf("%s, %s: %s", why, other, told(o))
			}
		}
	}
}
