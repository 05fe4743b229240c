package eval

import (
	"testing"

	"covenant/api"
	"covenant/journal"
)

// changes is statements that change all of a store in each way: new keys, other values, the same values, and nothing.
const changes = `put("b", "new"); put("a", "other"); put("a", "other"); del("k"); del("none"); put("", ""); del(""); put("k", "back"); del("b"); put("k", ""); put("long", "0123456789abcdef"); del("a"); log(1);`

// P10.2: a run that traps behind changes leaves what was there, whatever it traps for, and in whichever function.
func TestRollback(t *testing.T) {
	for end, trap := range map[string]api.Trap{
		"for i = 0 to 9223372036854775807 { put(\"a\", \"again\"); del(\"a\"); }": api.TrapGas,
		"let x = 1 / 0;":                     api.TrapDiv,
		"let x = 1 % 0;":                     api.TrapDiv,
		"let x = 9223372036854775807 + 1;":   api.TrapRange,
		"let x = -(-9223372036854775807-1);": api.TrapRange,
		"deep();":                            api.TrapDepth,
		"log(0 - 1);":                        api.TrapQuota,
		`let x = "12345678"; for i = 0 to 6 { x = x + x; put("a", x); }`:           api.TrapSize,
		`let x = "12345678"; for i = 0 to 4 { x = x + x; put(x, "a"); }`:           api.TrapSize,
		`let x = "12345678"; for i = 0 to 99 { put(x, x); x = x + "12345678"; }`:   api.TrapSize,
		`if has("long") && len(get("long")) == 16 && !has("a") { let x = 1 / 0; }`: api.TrapDiv,
	} {
		src := "fn f() { " + changes + end + ` }
			fn deep() { put("deep", "deep"); del("k"); deep(); }
			fn log(n: int) { let key = "l"; for i = 0 to 99 { if i == n { return; } put(key, "0123456789abcdef0123456789abcdef"); key = key + "l"; } }`
		p := front(t, src)
		x := run{prog: p, store: "a=1 k=0123456789abcdef"}
		o := Run(p, "f", nil, changed(t, x.store), api.MaxGas)
		if o.Trap != trap {
			t.Fatalf("%s: %s; want trap %d", end, told(o), trap)
		}
		x.mustDo(t, traps(trap, o.Used), "")
	}
}

// P10.2: a full store, in which the way back has room only in the right order.
func TestRollbackOfFullStore(t *testing.T) {
	p := front(t, `fn f(v: bytes) { del("b"); put("a", v); del("c"); del("d"); put("c", v); put("b", v); put("i", ""); put("z", get("c")); }`)
	x := run{prog: p, store: full(), args: []api.Value{text(long(256))}}
	x.mustDo(t, traps(api.TrapQuota, 6+23+6+6+23+23+7+6+20), "")
}

// P10.1, J2: each put and each del of a run that ends is a change that can be undone.
func TestChangesStay(t *testing.T) {
	p := front(t, `fn f(n: int) { for i = 0 to n { put("b", "1"); del("a"); } }`)
	j := changed(t, "a=1")
	mark := j.Mark()
	if o := Run(p, "f", []api.Value{num(3)}, j, api.MaxGas); !same(o, ends(api.Value{}, 3+3*(1+7+6))) {
		t.Fatal(told(o))
	}
	if j.Mark() != mark+6 || tell(j.Pairs()) != "b=1" {
		t.Fatalf("%q at mark %d; it was %d", tell(j.Pairs()), j.Mark(), mark)
	}
	for back, want := range map[int]string{5: "b=1", 2: "b=1", 1: "a=1 b=1", 0: "a=1"} {
		j := changed(t, "a=1")
		Run(p, "f", []api.Value{num(3)}, j, api.MaxGas)
		if e := j.Undo(mark + back); e != api.OK || tell(j.Pairs()) != want {
			t.Errorf("after Undo(%d): %v, %q; want %q", mark+back, e, tell(j.Pairs()), want)
		}
	}
}

// P10.2: runs one after the other on one journal: those that trap are as if they had not been.
func TestRunsOnOneJournal(t *testing.T) {
	p := front(t, `fn f(n: int): int { put("sum", get("sum") + "+"); let x = len(get("sum")); del("none"); return x / n; }`)
	j := journal.New(nil)
	for i, x := range []struct {
		n, limit int64
		want     api.Outcome
		stored   string
	}{
		{1, 100, ends(num(1), 28), "sum=+"},
		{0, 100, traps(api.TrapDiv, 28), "sum=+"},
		{1, 27, traps(api.TrapGas, 27), "sum=+"},
		{1, 28, ends(num(2), 28), "sum=++"},
		{2, 0, traps(api.TrapGas, 0), "sum=++"},
		{0, 1000, traps(api.TrapDiv, 28), "sum=++"},
		{3, 1000, ends(num(1), 28), "sum=+++"},
	} {
		if o := Run(p, "f", []api.Value{num(x.n)}, j, x.limit); !same(o, x.want) || tell(j.Pairs()) != x.stored {
			t.Fatalf("run %d: %s, %q; want %s, %q", i, told(o), tell(j.Pairs()), told(x.want), x.stored)
		}
	}
	if j.Mark() != 3*2 {
		t.Errorf("mark %d", j.Mark())
	}
}
