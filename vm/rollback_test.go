package vm

import (
	"testing"

	"covenant/api"
	"covenant/journal"
)

// changes puts new keys and others again, and deletes what is there, what was put, and what is not there.
const changes = "text 1, text 3, put, text 1, text 1, put, text 2, del, text 4, del, text 0, text 5, put, text 0, del, text 5, text 0, put, text 2, text 1, put, text 1, del, text 4, text 4, put, "

// ways are instructions that trap, behind the 26 that changes has.
func ways() map[string]api.Trap {
	return map[string]api.Trap{
		"gas 100000, return": api.TrapGas,
		"gas 1, text 1, text 2, put, text 1, del, jump 26":    api.TrapGas,
		"num 1, num 0, two /, drop, return":                   api.TrapDiv,
		"num 1, num 0, two %, drop, return":                   api.TrapDiv,
		"num 9223372036854775807, num 1, two +, drop, return": api.TrapRange,
		"num -9223372036854775808, one -, drop, return":       api.TrapRange,
		"call 1, return": api.TrapDepth,
		"call 2, return": api.TrapDiv,
		"call 3, return": api.TrapQuota,
		"call 4, return": api.TrapGas,
		"text 5, store 0, x4 load 0, x3 two +, text 1, two +, drop, return":                         api.TrapSize,
		"text 5, text 1, two +, text 1, put, return":                                                api.TrapSize,
		"text 2, x4 text 5, x3 two +, put, text 1, x4 text 5, x3 two +, text 1, two +, put, return": api.TrapSize,
	}
}

// changers are functions that change the store, too, ahead of what traps.
func changers() []api.Code {
	return []api.Code{
		fn("deep", 0, "text 2, text 1, put, text 4, del, call 1, return"),
		fn("zero", 0, "text 2, text 1, put, text 4, del, num 1, num 0, two /, drop, return"),
		fn("fill", 1, "text 5, store 0, text 0, store 0, load 0, x4 text 5, x3 two +, put, load 0, text 1, two +, store 0, jump 4"),
		fn("idle", 0, "text 2, text 1, put, text 4, del, jump 5"),
	}
}

// P14.3: a run that traps behind changes leaves what was there, whatever it traps for, and in whichever function.
func TestRollback(t *testing.T) {
	for instrs, trap := range ways() {
		for _, f := range []string{"f", "g"} {
			m := module(append([]api.Code{fn(f, 1, changes+instrs)}, changers()...)...)
			m.Codes = append(m.Codes, fn(map[string]string{"f": "g", "g": "f"}[f], 0, "text 1, text 5, put, call 0, text 2, del, return"))
			x := run{m: m, store: stored}
			o := Run(m, "f", nil, changed(t, stored), api.MaxGas)
			if o.Trap != trap {
				t.Fatalf("%s: %s; want trap %d", instrs, told(o), trap)
			}
			if trap == api.TrapGas {
				x.mustIdle(t, 0)
				continue
			}
			x.mustDo(t, o, "")
		}
	}
}

// P14.3: a full store, in which the way back has room only in the right order.
func TestRollbackOfFullStore(t *testing.T) {
	x := run{m: module(fn("f ssss", 0, "load 0, del, load 1, x4 text 5, x3 two +, put, load 2, del, load 3, del, load 2, x4 text 5, x3 two +, put, load 0, x4 text 5, x3 two +, put, return"))}
	x.store, x.args = full(), []api.Value{text("b"), text("a"), text("c"), text("d")}
	o := Run(x.m, "f", x.args, changed(t, x.store), api.MaxGas)
	if o.Trap != api.TrapNone {
		t.Fatal(told(o))
	}
	x.m.Codes[0].Instrs = append(x.m.Codes[0].Instrs[:len(x.m.Codes[0].Instrs)-1], asm("load 3, x4 text 5, x3 two +, put, return")...)
	o = Run(x.m, "f", x.args, changed(t, x.store), api.MaxGas)
	if o.Trap != api.TrapQuota {
		t.Fatal(told(o))
	}
	x.mustDo(t, o, "")
}

// P14.1: each put and each del of a run that ends is a change that can be undone.
func TestChangesStay(t *testing.T) {
	m := module(fn("f", 0, "x3 gas 1, text 2, text 1, put, text 1, del, text 3, del, return"))
	j := changed(t, stored)
	mark := j.Mark()
	if o := Run(m, "f", nil, j, 100); !same(o, ends(api.Value{}, 15)) {
		t.Fatal(told(o))
	}
	if j.Mark() != mark+3 || tell(j.Pairs()) != "k=a" {
		t.Fatalf("%q at mark %d; it was %d", tell(j.Pairs()), j.Mark(), mark)
	}
	for back, want := range []string{stored, "a=1 k=a", "k=a", "k=a"} {
		j := changed(t, stored)
		Run(m, "f", nil, j, 100)
		if e := j.Undo(mark + back); e != api.OK || tell(j.Pairs()) != want {
			t.Errorf("after Undo(%d): %v, %q; want %q", mark+back, e, tell(j.Pairs()), want)
		}
	}
}

// P14.3: runs one after the other on one journal: those that trap are as if they had not been.
func TestRunsOnOneJournal(t *testing.T) {
	m := module(fn("f i:i", 0, "gas 1, text 1, text 1, get, text 2, two +, put, text 2, del, text 1, get, len, load 0, two /, return"))
	j := journal.New(nil)
	for i, x := range []struct {
		n, limit int64
		want     api.Outcome
		stored   string
	}{
		{1, 100, ends(num(1), 13), "a=k"},
		{0, 100, traps(api.TrapDiv, 13), "a=k"},
		{1, 12, traps(api.TrapGas, 12), "a=k"},
		{1, 13, ends(num(2), 13), "a=kk"},
		{2, 0, traps(api.TrapGas, 0), "a=kk"},
		{0, 1000, traps(api.TrapDiv, 13), "a=kk"},
		{3, 1000, ends(num(1), 13), "a=kkk"},
	} {
		if o := Run(m, "f", []api.Value{num(x.n)}, j, x.limit); !same(o, x.want) || tell(j.Pairs()) != x.stored {
			t.Fatalf("run %d: %s, %q; want %s, %q", i, told(o), tell(j.Pairs()), told(x.want), x.stored)
		}
	}
	if j.Mark() != 3*2 {
		t.Errorf("mark %d", j.Mark())
	}
}
