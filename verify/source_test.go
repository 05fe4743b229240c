package verify

import (
	"math/rand"
	"strconv"
	"strings"

	"covenant/api"
)

// writer writes random sources of valid programs.
type writer struct {
	source *rand.Rand
	funcs  []api.Func
	scope  []api.Param
	names  int
	loops  map[string]int // the names that may not be set
	result api.Type
}

func pick[T any](source *rand.Rand, l ...T) T { return l[source.Intn(len(l))] }

func (w *writer) pick(l ...string) string { return pick(w.source, l...) }

func (w *writer) kind() api.Type { return api.Type(1 + w.source.Intn(3)) }

func typeName(t api.Type) string { return []string{"", "int", "bool", "bytes"}[t] }

// program is a source, with up to five functions.
func (w *writer) program() string {
	w.funcs = nil
	for i := range 1 + w.source.Intn(5) {
		f := api.Func{Name: "f" + strconv.Itoa(i), Result: api.Type(w.source.Intn(4))}
		for k := range w.source.Intn(4) {
			f.Params = append(f.Params, api.Param{Name: "p" + strconv.Itoa(k), Type: w.kind()})
		}
		w.funcs = append(w.funcs, f)
	}
	var b strings.Builder
	for _, f := range w.funcs {
		w.scope, w.names, w.loops, w.result = append([]api.Param(nil), f.Params...), 0, map[string]int{}, f.Result
		var params []string
		for _, p := range f.Params {
			params = append(params, p.Name+": "+typeName(p.Type))
		}
		b.WriteString("fn " + f.Name + "(" + strings.Join(params, ", ") + ")")
		if f.Result != api.TypeNone {
			b.WriteString(": " + typeName(f.Result))
		}
		b.WriteString(" { " + w.block(3, 4) + w.end(2) + "}\n")
	}
	return b.String()
}

// block is statements, which may end.
func (w *writer) block(levels, most int) string {
	var b strings.Builder
	for range w.source.Intn(most + 1) {
		b.WriteString(w.stmt(levels))
	}
	return b.String()
}

// inner is a block of its own.
func (w *writer) inner(levels int, end string) string {
	outer := len(w.scope)
	s := "{ " + w.block(levels, 3) + end + "} "
	w.scope = w.scope[:outer]
	return s
}

// end is statements that end a function.
func (w *writer) end(levels int) string {
	switch {
	case levels > 0 && w.source.Intn(3) == 0:
		return "if " + w.expr(2, api.TypeBool) + " " + w.inner(levels-1, w.end(levels-1)) + "else " + w.inner(levels-1, w.end(levels-1))
	case w.result != api.TypeNone:
		return "return " + w.expr(2, w.result) + "; "
	}
	return w.pick("", "return; ")
}

func (w *writer) declare(kind api.Type) string {
	w.names++
	name := "v" + strconv.Itoa(w.names)
	w.scope = append(w.scope, api.Param{Name: name, Type: kind})
	return name
}

func (w *writer) stmt(levels int) string {
	switch k := w.source.Intn(14); {
	case k < 3 && w.names < 30:
		kind := w.kind()
		e := w.expr(2, kind)
		return "let " + w.declare(kind) + " = " + e + "; "
	case k < 5:
		if p := w.local(func(p api.Param) bool { return w.loops[p.Name] == 0 }); p.Name != "" {
			return p.Name + " = " + w.expr(2, p.Type) + "; "
		}
	case k < 7 && levels > 0:
		s := "if " + w.expr(2, api.TypeBool) + " " + w.inner(levels-1, w.pick("", w.end(0)))
		if w.source.Intn(2) == 0 {
			s += "else " + w.inner(levels-1, w.pick("", w.end(0)))
		}
		return s
	case k < 9 && levels > 0 && w.names < 30:
		return w.loop(levels)
	case k < 11:
		return w.call(pick(w.source, w.funcs...), 2) + "; "
	case k < 12:
		return "del(" + w.expr(2, api.TypeBytes) + "); "
	case k < 13 && w.source.Intn(4) == 0:
		return w.end(0)
	}
	return "put(" + w.expr(2, api.TypeBytes) + ", " + w.expr(2, api.TypeBytes) + "); "
}

func (w *writer) loop(levels int) string {
	s := " = " + w.expr(1, api.TypeInt) + " to " + w.expr(1, api.TypeInt) + " "
	outer := len(w.scope)
	name := w.declare(api.TypeInt)
	w.loops[name]++
	s = "for " + name + s + w.inner(levels-1, w.pick("", w.end(0)))
	w.scope = w.scope[:outer]
	return s
}

// local is one of the names in scope that are right, or none.
func (w *writer) local(right func(p api.Param) bool) api.Param {
	var l []api.Param
	for _, p := range w.scope {
		if right(p) {
			l = append(l, p)
		}
	}
	if len(l) == 0 {
		return api.Param{}
	}
	return pick(w.source, l...)
}

func (w *writer) call(f api.Func, levels int) string {
	var kids []string
	for _, p := range f.Params {
		kids = append(kids, w.expr(levels-1, p.Type))
	}
	return f.Name + "(" + strings.Join(kids, ", ") + ")"
}

func (w *writer) expr(levels int, kind api.Type) string {
	if levels <= 0 || w.source.Intn(3) == 0 {
		return w.leaf(kind)
	}
	if f := pick(w.source, w.funcs...); f.Result == kind && w.source.Intn(2) == 0 {
		return w.call(f, levels)
	}
	two := func(kind api.Type, signs ...string) string {
		return "(" + w.expr(levels-1, kind) + " " + w.pick(signs...) + " " + w.expr(levels-1, kind) + ")"
	}
	one := func(head string, kind api.Type) string { return head + "(" + w.expr(levels-1, kind) + ")" }
	switch kind {
	case api.TypeInt:
		return w.pick(two(api.TypeInt, "+", "-", "*", "/", "%"), one("-", api.TypeInt), one("len", api.TypeBytes))
	case api.TypeBytes:
		return w.pick(two(api.TypeBytes, "+"), one("get", api.TypeBytes))
	}
	return w.pick(two(api.TypeBool, "&&", "||"), two(api.TypeInt, "<", "<=", ">", ">="), two(w.kind(), "==", "!="), one("!", api.TypeBool), one("has", api.TypeBytes))
}

func (w *writer) leaf(kind api.Type) string {
	if p := w.local(func(p api.Param) bool { return p.Type == kind }); p.Name != "" && w.source.Intn(3) > 0 {
		return p.Name
	}
	switch kind {
	case api.TypeInt:
		return w.pick("0", "1", "2", "9223372036854775807")
	case api.TypeBool:
		return w.pick("true", "false")
	}
	return w.pick(`""`, `"a"`, `"b"`, `"key"`)
}
