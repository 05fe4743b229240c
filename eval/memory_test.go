package eval

import (
	"reflect"
	"slices"
	"strings"
	"testing"

	"covenant/api"
	"covenant/journal"
)

// spared is bytes with capacity behind them.
func spared(s string) []byte {
	return append([]byte(s), "spare capacity"...)[:len(s)]
}

// sparedArgs is arguments with capacity behind them, and behind their texts.
func sparedArgs(texts ...string) []api.Value {
	var l []api.Value
	for _, s := range append(texts, "spare 1", "spare 2") {
		l = append(l, api.Value{Type: api.TypeBytes, Text: spared(s)})
	}
	return l[:len(texts)]
}

// memory is all bytes that values lead to, with their spare capacity, those of the values behind the last one among them.
func memory(l []api.Value) [][]byte {
	var m [][]byte
	for _, v := range l[:cap(l)] {
		m = append(m, v.Text[:cap(v.Text)])
	}
	return m
}

func flip(m ...[]byte) {
	for _, b := range m {
		for i := range b {
			b[i] ^= 0xFF
		}
	}
}

const busy = `fn f(key: bytes, value: bytes): bytes {
	put(key, value);
	let a = key;
	key = key + value;
	value = a;
	put(value, get(a) + key);
	del(key);
	if len(value) > 2 { let x = 1 / 0; }
	if has("k") { return get("k"); }
	return %;
}`

// busies are sources whose f returns an argument, or another value that has to do with one.
func busies() []string {
	var l []string
	for _, what := range []string{"a", "key", "value", "get(a)", "g(value)", "h(value, value)", `"text"`, `a + ""`} {
		l = append(l, strings.Replace(busy, "%", what, 1)+` fn g(x: bytes): bytes { let y = x; return y; } fn h(x: bytes, y: bytes): bytes { x = g(y); return x; }`)
	}
	return l
}

// P3: what is passed is not changed, with its spare capacity, and what is returned is in other memory.
func TestArgumentsStay(t *testing.T) {
	for _, src := range busies() {
		p := front(t, src)
		for _, key := range []string{"", "a", "k", "abc", long(64), long(65)} {
			for i, limit := range []int64{0, 10, 30, api.MaxGas, api.MaxGas} {
				args := sparedArgs(key, "value")
				whole, before := slices.Clone(args[:cap(args)]), sparedArgs(key, "value")
				o := Run(p, "f", args, changed(t, []string{"b=2", "k=1"}[i%2]), limit)
				flip(o.Value.Text[:cap(o.Value.Text)])
				if !reflect.DeepEqual(memory(args), memory(before)) {
					t.Fatalf("key %q, limit %d: the texts of arguments were changed, or returned", key, limit)
				}
				if !reflect.DeepEqual(args[:cap(args)], whole) {
					t.Fatalf("key %q, limit %d: arguments were changed", key, limit)
				}
			}
		}
	}
}

// P3: what was passed and what was returned can be changed, and the store stays.
func TestArgumentsAreNotKept(t *testing.T) {
	for _, src := range busies() {
		p := front(t, src)
		args := sparedArgs("a", "12")
		j := changed(t, "b=2")
		o := Run(p, "f", args, j, api.MaxGas)
		if o.Trap != api.TrapNone {
			t.Fatal(told(o))
		}
		want := tell(j.Pairs())
		flip(memory(args)...)
		flip(o.Value.Text[:cap(o.Value.Text)])
		if got := tell(j.Pairs()); got != want || got != "a=12a12 b=2" {
			t.Fatalf("%q; it was %q", got, want)
		}
	}
}

// P3: a program is not changed, and runs alike each time, whatever ran ahead of it, and whatever is done to what it returned.
func TestSameAgain(t *testing.T) {
	for _, src := range busies() {
		p := front(t, src)
		for _, limit := range []int64{api.MaxGas, 12, api.MaxGas, 0, api.MaxGas} {
			first, second := changed(t, "b=2"), changed(t, "b=2")
			a := Run(p, "f", sparedArgs("a", "12"), first, limit)
			Run(p, "g", sparedArgs("x"), journal.New(nil), limit)
			Run(p, "f", sparedArgs("abc", "12"), journal.New(nil), limit)
			b := Run(p, "f", sparedArgs("a", "12"), second, limit)
			if !same(a, b) || tell(first.Pairs()) != tell(second.Pairs()) || first.Mark() != second.Mark() {
				t.Fatalf("%s, %q; then %s, %q", told(a), tell(first.Pairs()), told(b), tell(second.Pairs()))
			}
			flip(a.Value.Text[:cap(a.Value.Text)], b.Value.Text[:cap(b.Value.Text)])
		}
		if !reflect.DeepEqual(p, front(t, src)) {
			t.Fatal("the program was changed")
		}
	}
}
