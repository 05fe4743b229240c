package code

import (
	"bytes"
	"math/rand"
	"slices"
	"testing"

	"covenant/api"
)

// spared is a list with others in its spare capacity.
func spared[T any](l []T, other ...T) []T {
	return append(slices.Clip(l), other...)[:len(l)]
}

// sparedModule is a module all of whose lists have spare capacity.
func sparedModule(m api.Module) api.Module {
	var n api.Module
	for _, c := range m.Codes {
		c.Params = spared(c.Params, api.TypeInt, api.TypeNone)
		c.Instrs = spared(c.Instrs, api.Instr{Op: api.OpDrop, A: 7}, api.Instr{})
		n.Codes = append(n.Codes, c)
	}
	for _, s := range m.Texts {
		n.Texts = append(n.Texts, spared(s, []byte("spare")...))
	}
	n.Codes = spared(n.Codes, api.Code{Name: "spare"}, api.Code{})
	n.Texts = spared(n.Texts, []byte("spare"), nil)
	return n
}

// whole is a list with its spare capacity.
func whole[T any](l []T) []T { return l[:cap(l)] }

// snapshot is a copy of a module, with the spare capacity of all lists.
func snapshot(m api.Module) api.Module {
	n := api.Module{Codes: slices.Clone(whole(m.Codes)), Texts: slices.Clone(whole(m.Texts))}
	for i, c := range n.Codes {
		n.Codes[i].Params, n.Codes[i].Instrs = slices.Clone(whole(c.Params)), slices.Clone(whole(c.Instrs))
	}
	for i, s := range n.Texts {
		n.Texts[i] = slices.Clone(whole(s))
	}
	return n
}

// wipe overwrites all lists of a module, and their spare capacity.
func wipe(m api.Module) {
	for i, c := range whole(m.Codes) {
		wipeList(c.Params, 9)
		wipeList(c.Instrs, api.Instr{Op: 99, A: 99})
		whole(m.Codes)[i] = api.Code{Name: "wiped"}
	}
	for i, s := range whole(m.Texts) {
		wipeList(s, 0xEE)
		whole(m.Texts)[i] = []byte("wiped")
	}
}

func wipeList[T any](l []T, with T) {
	for i := range whole(l) {
		whole(l)[i] = with
	}
}

// samples are modules, some of which are not valid.
func samples() []api.Module {
	l := []api.Module{{}, plain()}
	for _, c := range slices.Concat(variants(), rightModules(), wrongModules()) {
		l = append(l, c.m)
	}
	return l
}

// P3: Right and Put leave the module as it was, with the spare capacity of its lists; what Put returns is new memory.
func TestModulesStay(t *testing.T) {
	for _, m := range samples() {
		n := sparedModule(m)
		before := snapshot(n)
		Right(n)
		b, e := Put(n)
		if !same(snapshot(n), before) {
			t.Fatalf("%s was changed to %s", show(before), show(n))
		}
		kept := bytes.Clone(b)
		wipeList(b, 0xEE)
		if !same(snapshot(n), before) {
			t.Fatalf("the bytes of %s share its memory", show(before))
		}
		again, f := Put(n)
		wipeList(b, 0xDD)
		if f != e || !bytes.Equal(again, kept) {
			t.Fatalf("%s has other bytes the second time: %x, %v; %x, %v", show(before), kept, e, again, f)
		}
		wipe(n)
		if !bytes.Equal(again, kept) {
			t.Fatalf("the bytes of %s change with it", show(before))
		}
	}
}

// P3: Get leaves the bytes as they were, with their spare capacity; what it returns is new memory.
func TestBytesStay(t *testing.T) {
	for _, m := range samples() {
		for _, n := range []int{0, 1, 8} {
			b := written(m)
			b = spared(b[:max(0, len(b)-n)], []byte("spare capacity")...)
			kept := bytes.Clone(whole(b))
			got, e := Get(b)
			if !bytes.Equal(whole(b), kept) {
				t.Fatalf("the bytes of %s were changed", show(m))
			}
			if e == api.OK && !same(got, m) {
				t.Fatalf("%s: %s", show(m), show(got))
			}
			again, f := Get(b)
			wipe(got)
			if !bytes.Equal(whole(b), kept) {
				t.Fatalf("what was read of %s shares its memory", show(m))
			}
			wipeList(b, 0xEE)
			if e != f || e == api.OK && !same(again, m) {
				t.Fatalf("%s: what was read changes with the bytes, or with what was read before: %s", show(m), show(again))
			}
		}
	}
}

// P3: no two lists of a module that was read share memory, so that one can be appended to.
func TestListsOfAModuleShareNothing(t *testing.T) {
	c := api.Code{Params: []api.Type{1, 2}, Slots: 2, Instrs: []api.Instr{{Op: 1}, {Op: 2}}}
	want := api.Module{Codes: []api.Code{c, c, c}, Texts: [][]byte{[]byte("aa"), {}, []byte("aa")}}
	read := func() api.Module {
		m, e := Get(written(want))
		if e != api.OK || !same(m, want) {
			t.Fatal(m, e)
		}
		return m
	}
	for i := range want.Codes {
		m := read()
		wipeList(m.Codes[i].Params, 9)
		m.Codes[i].Params = c.Params
		if !same(m, want) {
			t.Errorf("Params of Code %d: %s", i, show(m))
		}
		wipeList(m.Codes[i].Instrs, api.Instr{})
		m.Codes[i].Instrs = c.Instrs
		if !same(m, want) {
			t.Errorf("Instrs of Code %d: %s", i, show(m))
		}
		wipeList(m.Texts[i], 0xEE)
		m.Texts[i] = want.Texts[i]
		if !same(m, want) {
			t.Errorf("Text %d: %s", i, show(m))
		}
	}
}

// P3: a call has the same result whatever was called before it.
func TestCallsDoNotHangOnOthers(t *testing.T) {
	source := rand.New(rand.NewSource(6))
	type call struct {
		m    api.Module
		b    []byte
		put  []byte
		got  api.Module
		e, f api.Errno
	}
	var done []call
	for range 3000 {
		c := call{m: randomModule(source)}
		c.b = spoil(source, written(c.m))
		c.put, c.e = Put(c.m)
		c.got, c.f = Get(c.b)
		done = append(done, c)
	}
	slices.Reverse(done)
	for _, c := range done {
		put, e := Put(c.m)
		got, f := Get(c.b)
		if !bytes.Equal(put, c.put) || e != c.e || !same(got, c.got) || f != c.f {
			t.Fatalf("%s and %x: %x, %v and %s, %v; at first %x, %v and %s, %v", show(c.m), c.b, put, e, show(got), f, c.put, c.e, show(c.got), c.f)
		}
	}
}
