package verify

import (
	"math/rand"
	"reflect"
	"slices"
	"sync"
	"testing"

	"covenant/api"
)

// spared is a list with others in its spare capacity.
func spared[T any](l []T, other ...T) []T {
	return append(slices.Clip(l), other...)[:len(l)]
}

// sparedModule is a module all of whose lists have spare capacity.
func sparedModule(m api.Module) api.Module {
	var n api.Module
	for _, c := range m.Codes {
		c.Params = spared(c.Params, api.TypeInt, api.TypeNone)
		c.Instrs = spared(c.Instrs, api.Instr{Op: api.OpDrop, A: 7}, api.Instr{})
		n.Codes = append(n.Codes, c)
	}
	for _, s := range m.Texts {
		n.Texts = append(n.Texts, spared(s, []byte("spare")...))
	}
	n.Codes = spared(n.Codes, api.Code{Name: "spare"}, api.Code{})
	n.Texts = spared(n.Texts, []byte("spare"), nil)
	return n
}

// whole is a list with its spare capacity.
func whole[T any](l []T) []T { return l[:cap(l)] }

// snapshot is a copy of a module, with the spare capacity of all lists.
func snapshot(m api.Module) api.Module {
	n := api.Module{Codes: slices.Clone(whole(m.Codes)), Texts: slices.Clone(whole(m.Texts))}
	for i, c := range n.Codes {
		n.Codes[i].Params, n.Codes[i].Instrs = slices.Clone(whole(c.Params)), slices.Clone(whole(c.Instrs))
	}
	for i, s := range n.Texts {
		n.Texts[i] = slices.Clone(whole(s))
	}
	return n
}

// samples are modules, safe ones and others.
func samples() []api.Module {
	g := &maker{source: rand.New(rand.NewSource(1))}
	l := []api.Module{{}, module(fn("f", "", "", 0, "return"), fn("f", "", "", 0, "return")), module(fn("f", "i", "", 0, "return")), module(loops(9, "bool 1"))}
	for _, c := range faulty() {
		l = append(l, module(c), module(fn("f", "iibs", "s", 9, "load 3, return"), c))
	}
	for range 1000 {
		m := g.module()
		l = append(l, m)
		n := copied(m)
		spoil(g.source, &n)
		l = append(l, n)
	}
	return l
}

// P3: Check leaves the module as it was, with the spare capacity of its lists.
func TestModulesStay(t *testing.T) {
	count := map[api.Errno]int{}
	for _, m := range samples() {
		n := sparedModule(m)
		before := snapshot(n)
		e := Check(n)
		count[e]++
		if !reflect.DeepEqual(snapshot(n), before) {
			t.Fatalf("%+v was changed to %+v", before, snapshot(n))
		}
		if f := Check(m); f != e {
			t.Fatalf("%+v: %v, and %v without spare capacity", m, e, f)
		}
	}
	if count[api.OK] < 100 || count[api.ErrStack] < 100 || count[api.ErrCode] < 10 {
		t.Errorf("the modules are too much alike: %v", count)
	}
}

// P3: a call has the same result whatever was checked before it.
func TestCallsDoNotHangOnOthers(t *testing.T) {
	l := samples()
	var done []api.Errno
	for _, m := range l {
		done = append(done, Check(m))
	}
	for i, m := range slices.Backward(l) {
		if e := Check(m); e != done[i] {
			t.Fatalf("%+v: %v; at first %v", m, e, done[i])
		}
	}
}

// P3: calls at one time, of the same modules, have the results that they have one after another.
func TestCallsAtOneTime(t *testing.T) {
	l := samples()
	var done []api.Errno
	for _, m := range l {
		done = append(done, Check(m))
	}
	var group sync.WaitGroup
	for range 4 {
		group.Go(func() {
			for i, m := range l {
				if e := Check(m); e != done[i] {
					t.Errorf("%+v: %v; at first %v", m, e, done[i])
				}
			}
		})
	}
	group.Wait()
}
