package vm

import (
	"reflect"
	"slices"
	"strings"
	"testing"

	"covenant/api"
	"covenant/journal"
	"covenant/verify"
)

// spared is bytes with capacity behind them.
func spared(s string) []byte {
	return append([]byte(s), "spare capacity"...)[:len(s)]
}

// sparedArgs is arguments with capacity behind them, and behind their texts.
func sparedArgs(l ...string) []api.Value {
	var args []api.Value
	for _, s := range append(l, strings.Fields("this is what stands in the capacity behind them")...) {
		args = append(args, api.Value{Type: api.TypeBytes, Text: spared(s)})
	}
	return args[:len(l)]
}

// sparedModule is a module with capacity behind all its lists, which has the same there each time.
func sparedModule(l ...api.Code) api.Module {
	m := api.Module{}
	for _, c := range append(l, fn("spare", 0, "num 5")) {
		c.Params = append(slices.Clone(c.Params), kindsOf("ibs")...)[:len(c.Params)]
		c.Instrs = append(slices.Clone(c.Instrs), asm("x5 num 5")...)[:len(c.Instrs)]
		m.Codes = append(m.Codes, c)
	}
	m.Codes = m.Codes[:len(l)]
	for _, s := range append(texts(), []byte("spare")) {
		m.Texts = append(m.Texts, spared(string(s)))
	}
	m.Texts = m.Texts[:len(texts())]
	return m
}

// memory is all that a module and arguments lead to, with what is behind them.
func memory(m api.Module, args []api.Value) (codes []api.Code, values []api.Value, bytes [][]byte) {
	for _, c := range m.Codes[:cap(m.Codes)] {
		c.Params, c.Instrs = c.Params[:cap(c.Params)], c.Instrs[:cap(c.Instrs)]
		codes = append(codes, c)
	}
	for _, s := range m.Texts[:cap(m.Texts)] {
		bytes = append(bytes, s[:cap(s)])
	}
	values = args[:cap(args)]
	for _, v := range values {
		bytes = append(bytes, v.Text[:cap(v.Text)])
	}
	return codes, values, bytes
}

func flip(l ...[]byte) {
	for _, b := range l {
		for i := range b {
			b[i] ^= 0xFF
		}
	}
}

// busies are modules whose f puts its arguments and texts, and returns one of them, or another value that has to do with them.
func busies() []api.Module {
	const busy = "gas 5, load 0, load 1, put, load 0, store 2, load 0, load 1, two +, store 3, text 2, load 0, put, text 1, text 3, put, load 0, text 4, call 1, drop, load 0, get, drop, text 2, del, x3 load 0, call 1, get, load 3, two +, put, "
	pass := fn("pass ss:s", 1, "load 0, store 2, load 1, drop, load 2, return")
	var l []api.Module
	for _, end := range []string{"load 0", "load 1", "load 2", "load 3", "text 3", "text 4", "load 1, text 1, call 1", "text 4, load 0, call 1", "load 0, get", "text 1, get", "load 1, text 0, two +"} {
		m := sparedModule(fn("f ss:s", 2, busy+end+", return"), pass)
		if e := verify.Check(m); e != api.OK {
			panic(e)
		}
		l = append(l, m)
	}
	return l
}

// P3: what is passed is not changed, with its spare capacity, and what is returned is in other memory.
func TestArgumentsStay(t *testing.T) {
	for i, m := range busies() {
		for _, key := range []string{"", "a", "k", "abc", long(64), long(65), long(256)} {
			for k, limit := range []int64{0, 10, 30, api.MaxGas, api.MaxGas} {
				args := sparedArgs(key, "value")
				codes, values, bytes := memory(m, args)
				codes, values = slices.Clone(codes), slices.Clone(values)
				_, _, before := memory(busies()[i], sparedArgs(key, "value"))
				o := Run(m, "f", args, changed(t, []string{"b=2", "k=1"}[k%2]), limit)
				flip(o.Value.Text[:cap(o.Value.Text)])
				if !reflect.DeepEqual(bytes, before) {
					t.Fatalf("key %q, limit %d: bytes were changed, or returned", key, limit)
				}
				if c, v, _ := memory(m, args); !reflect.DeepEqual(c, codes) || !reflect.DeepEqual(v, values) {
					t.Fatalf("key %q, limit %d: the module or arguments were changed", key, limit)
				}
			}
		}
		if want := busies()[i]; !reflect.DeepEqual(m, want) {
			t.Fatal("the module was changed")
		}
	}
}

// P3: what was passed and what was returned can be changed, and the store stays.
func TestArgumentsAreNotKept(t *testing.T) {
	for _, m := range busies() {
		args, j := sparedArgs("key", "12"), changed(t, "b=2")
		o := Run(m, "f", args, j, api.MaxGas)
		if o.Trap != api.TrapNone {
			t.Fatal(told(o))
		}
		returned := string(o.Value.Text)
		_, _, bytes := memory(m, args)
		flip(bytes...)
		if got := string(o.Value.Text); got != returned {
			t.Fatalf("%q was returned, and is %q", returned, got)
		}
		flip(o.Value.Text[:cap(o.Value.Text)])
		if got := tell(j.Pairs()); got != "a="+long(15)+" b=2 key=12key12" {
			t.Fatalf("the store is %q", got)
		}
		j.Undo(0)
		if got := tell(j.Pairs()); got != "" {
			t.Fatalf("the first store is %q", got)
		}
	}
}

// P3: what was returned stays when the store changes, and pairs that were read stay when a run changes the store.
func TestResultsStay(t *testing.T) {
	for _, m := range busies() {
		j := changed(t, "b=2")
		before := j.Pairs()
		o := Run(m, "f", sparedArgs("key", "12"), j, api.MaxGas)
		returned := string(o.Value.Text)
		for _, p := range j.Pairs() {
			j.Put(p.Key, []byte("changed"))
		}
		Run(m, "f", sparedArgs("key", "other"), j, api.MaxGas)
		if string(o.Value.Text) != returned || tell(before) != "b=2" {
			t.Fatalf("%q was returned, and is %q; the store was %q", returned, o.Value.Text, tell(before))
		}
	}
}

// P3: a run comes to the same each time, whatever ran ahead of it, and whatever is done to what it returned.
func TestSameAgain(t *testing.T) {
	for _, m := range busies() {
		for _, limit := range []int64{api.MaxGas, 12, api.MaxGas, 0, api.MaxGas} {
			first, second := changed(t, "b=2"), changed(t, "b=2")
			a := Run(m, "f", sparedArgs("a", "12"), first, limit)
			Run(m, "pass", sparedArgs("x", "y"), journal.New(nil), limit)
			Run(m, "f", sparedArgs("abc", long(256)), journal.New(nil), limit)
			b := Run(m, "f", sparedArgs("a", "12"), second, limit)
			if !same(a, b) || tell(first.Pairs()) != tell(second.Pairs()) || first.Mark() != second.Mark() {
				t.Fatalf("%s, %q; then %s, %q", told(a), tell(first.Pairs()), told(b), tell(second.Pairs()))
			}
			flip(a.Value.Text[:cap(a.Value.Text)], b.Value.Text[:cap(b.Value.Text)])
		}
	}
}

// P3: runs of one module side by side do not disturb each other.
func TestSideBySide(t *testing.T) {
	m, outcomes := busies()[3], make(chan api.Outcome)
	for range 8 {
		go func() {
			outcomes <- Run(m, "f", sparedArgs("key", "12"), journal.New(nil), api.MaxGas)
		}()
	}
	want := Run(m, "f", sparedArgs("key", "12"), journal.New(nil), api.MaxGas)
	for range 8 {
		if o := <-outcomes; !same(o, want) {
			t.Errorf("%s; want %s", told(o), told(want))
		}
	}
}
