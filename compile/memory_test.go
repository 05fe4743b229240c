package compile

import (
	"bytes"
	"reflect"
	"slices"
	"testing"

	"covenant/api"
)

// spared is a list with others in its spare capacity.
func spared[T any](l []T, other ...T) []T {
	return append(slices.Clip(l), other...)[:len(l)]
}

// whole is a list with its spare capacity.
func whole[T any](l []T) []T { return l[:cap(l)] }

func sparedExprs(l []api.Expr) []api.Expr {
	var out []api.Expr
	for _, e := range l {
		e.Kids = sparedExprs(e.Kids)
		out = append(out, e)
	}
	return spared(out, textOf("spare"), name("spare"))
}

func sparedBlock(l []api.Stmt) []api.Stmt {
	var out []api.Stmt
	for _, s := range l {
		s.Exprs, s.Body, s.Else = sparedExprs(s.Exprs), sparedBlock(s.Body), sparedBlock(s.Else)
		out = append(out, s)
	}
	return spared(out, leave(), let("spare"))
}

// sparedProgram is a program all of whose lists are its own, and have spare capacity.
func sparedProgram(p api.Program) api.Program {
	var q api.Program
	for _, f := range p.Funcs {
		f.Params = spared(f.Params, api.Param{Name: "spare", Type: api.TypeInt}, api.Param{})
		f.Body = sparedBlock(f.Body)
		q.Funcs = append(q.Funcs, f)
	}
	q.Funcs = spared(q.Funcs, api.Func{Name: "spare"}, api.Func{})
	return q
}

// snapshot is all that a program leads to, with the spare capacity of its lists.
func snapshot(p api.Program) any {
	var all []any
	var exprs func(l []api.Expr)
	exprs = func(l []api.Expr) {
		for _, e := range whole(l) {
			all = append(all, e.Op, e.Num, e.Text, e.At, len(e.Kids))
			exprs(e.Kids)
		}
	}
	var block func(l []api.Stmt)
	block = func(l []api.Stmt) {
		for _, s := range whole(l) {
			all = append(all, s.Op, s.Text, s.At, len(s.Exprs), len(s.Body), len(s.Else))
			exprs(s.Exprs)
			block(s.Body)
			block(s.Else)
		}
	}
	for _, f := range whole(p.Funcs) {
		all = append(all, f.Name, f.Result, f.At, slices.Clone(whole(f.Params)))
		block(f.Body)
	}
	return all
}

func wipeList[T any](l []T, with T) {
	for i := range whole(l) {
		whole(l)[i] = with
	}
}

// wipeModule overwrites all lists of a module, and their spare capacity.
func wipeModule(m api.Module) {
	for _, c := range m.Codes {
		wipeList(c.Params, 9)
		wipeList(c.Instrs, api.Instr{Op: 99, A: 99})
	}
	for _, s := range m.Texts {
		wipeList(s, 0xEE)
	}
	wipeList(m.Codes, api.Code{Name: "wiped"})
	wipeList(m.Texts, []byte("wiped"))
}

func wipeExprs(l []api.Expr) {
	for _, e := range l {
		wipeExprs(e.Kids)
	}
	wipeList(l, textOf("wiped"))
}

func wipeBlock(l []api.Stmt) {
	for _, s := range l {
		wipeExprs(s.Exprs)
		wipeBlock(s.Body)
		wipeBlock(s.Else)
	}
	wipeList(l, del("wiped"))
}

// wipeProgram overwrites all lists of a program, and their spare capacity.
func wipeProgram(p api.Program) {
	for _, f := range p.Funcs {
		wipeList(f.Params, api.Param{Name: "wiped"})
		wipeBlock(f.Body)
	}
	wipeList(p.Funcs, api.Func{Name: "wiped"})
}

// copied is a copy of a module in memory of its own.
func copied(m api.Module) api.Module {
	n := api.Module{Codes: slices.Clone(m.Codes), Texts: slices.Clone(m.Texts)}
	for i, c := range n.Codes {
		n.Codes[i].Params, n.Codes[i].Instrs = slices.Clone(c.Params), slices.Clone(c.Instrs)
	}
	for i, s := range n.Texts {
		n.Texts[i] = bytes.Clone(s)
	}
	return n
}

// P3: Compile leaves the program as it was, with the spare capacity of its lists; the module shares no memory with it, nor with another module.
func TestProgramsStay(t *testing.T) {
	for seed := range 150 {
		p, _ := made(t, seed)
		p = sparedProgram(p)
		before := snapshot(p)
		m, e := Compile(p)
		if !reflect.DeepEqual(snapshot(p), before) {
			t.Fatalf("%+v was changed", p)
		}
		want := copied(m)
		wipeModule(m)
		if !reflect.DeepEqual(snapshot(p), before) {
			t.Fatalf("%+v shares memory with its module", p)
		}
		again, f := Compile(p)
		if e != api.OK || f != e || !same(again, want) {
			t.Fatalf("%+v: %v, %+v; the second time %v, %+v", p, e, want, f, again)
		}
		third, _ := Compile(p)
		wipeModule(third)
		wipeProgram(p)
		if !same(again, want) {
			t.Fatalf("%+v: the module changes with the program, or with another module", want)
		}
	}
}

// P3: programs without a module stay too.
func TestWrongProgramsStay(t *testing.T) {
	for _, p := range []api.Program{
		program(long(api.MaxInstrs + 1)),
		program(dels("f", many(1025)...)),
		program(api.Func{Name: "f", Body: []api.Stmt{let("x"), let("x")}}),
		program(named("f", "g", "f")...),
	} {
		p = sparedProgram(p)
		before := snapshot(p)
		_, e := Compile(p)
		_, again := Compile(p)
		if e == api.OK || again != e || !reflect.DeepEqual(snapshot(p), before) {
			t.Errorf("%v, then %v; or the program was changed", e, again)
		}
	}
}

// P3: Build leaves the source as it was, and what it returns does not change with it.
func TestSourcesStay(t *testing.T) {
	for _, s := range []string{
		`fn f(a: int): bytes { put("key", "value"); return get("key") + "value"; } fn g() { f(1); }`,
		`fn f() { x; }`, `fn`, `"`, ``,
	} {
		src := spared([]byte(s), []byte(`spare "capacity"`)...)
		kept := bytes.Clone(whole(src))
		m, e, at := Build(src)
		want := copied(m)
		if !bytes.Equal(whole(src), kept) {
			t.Fatalf("%q was changed", s)
		}
		again, f, place := Build(src)
		wipeModule(again)
		if !bytes.Equal(whole(src), kept) || f != e || place != at {
			t.Fatalf("Build(%q): %v, %d; then %v, %d; or it was changed", s, e, at, f, place)
		}
		wipeList(src, 'z')
		if !same(m, want) {
			t.Fatalf("%q: the module changes with the source", s)
		}
	}
}

// P3: no two lists of a module share memory, so that one can be overwritten, and appended to.
func TestListsOfAModuleShareNothing(t *testing.T) {
	const src = `fn f(a: int, b: bool) { del("aa"); del(""); } fn g(a: int, b: bool) { del("bb"); del("cc"); }`
	want := built(t, src)
	check := func(what string, change func(m api.Module)) {
		m := built(t, src)
		change(m)
		if !same(m, want) {
			t.Errorf("%s is shared: %+v", what, m)
		}
	}
	for i, c := range want.Codes {
		check("Params", func(m api.Module) {
			wipeList(m.Codes[i].Params, 9)
			m.Codes[i].Params = c.Params
		})
		check("Instrs", func(m api.Module) {
			wipeList(m.Codes[i].Instrs, api.Instr{})
			m.Codes[i].Instrs = c.Instrs
		})
	}
	for i, s := range want.Texts {
		check("a text", func(m api.Module) {
			wipeList(m.Texts[i], 0xEE)
			m.Texts[i] = s
		})
	}
}

// P3: a call has the same result whatever was compiled before it.
func TestCallsDoNotHangOnOthers(t *testing.T) {
	type call struct {
		p api.Program
		m api.Module
	}
	var done []call
	for seed := range 500 {
		p, _ := made(t, 20000+seed)
		m, _ := Compile(p)
		done = append(done, call{p, copied(m)})
	}
	slices.Reverse(done)
	for _, c := range done {
		if m, e := Compile(c.p); e != api.OK || !same(m, c.m) {
			t.Fatalf("%+v: %v, %+v; at first %+v", c.p, e, m, c.m)
		}
	}
}
