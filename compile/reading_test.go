package compile

import (
	"fmt"
	"slices"
	"strings"

	"covenant/api"
)

// The second reading of the document: slots are given in a pass of their own, then a program becomes lines with the names of labels, and these the places, as an assembler has it.

// spot is a name in scope, and its slot.
type spot struct {
	name string
	slot int
}

// slotting gives slots. given has them by the places in memory of the lets, fors and sets, and of the expressions that are names.
type slotting struct {
	given map[any]int
	scope []spot
	next  int
}

func (g *slotting) declare(name string, slots int) int {
	g.scope = append(g.scope, spot{name, g.next})
	g.next += slots
	return g.next - slots
}

func (g *slotting) find(name string) int {
	for i := len(g.scope) - 1; ; i-- {
		if g.scope[i].name == name {
			return g.scope[i].slot
		}
	}
}

func (g *slotting) exprs(l []api.Expr) {
	for i := range l {
		if l[i].Op == api.ExprName {
			g.given[&l[i]] = g.find(l[i].Text)
		}
		g.exprs(l[i].Kids)
	}
}

func (g *slotting) block(l []api.Stmt) {
	outer := len(g.scope)
	for i := range l {
		s := &l[i]
		g.exprs(s.Exprs)
		around := len(g.scope)
		switch s.Op {
		case api.StmtLet:
			g.given[s] = g.declare(s.Text, 1)
			continue
		case api.StmtSet:
			g.given[s] = g.find(s.Text)
		case api.StmtFor:
			g.given[s] = g.declare(s.Text, 2)
		}
		g.block(s.Body)
		g.block(s.Else)
		g.scope = g.scope[:around]
	}
	g.scope = g.scope[:outer]
}

// lines writes a function as lines. A line that ends with a colon is a label.
type lines struct {
	out    []string
	labels int
	slots  map[any]int
	funcs  []api.Func
	texts  *[]string
}

func (w *lines) add(l ...any) { w.out = append(w.out, strings.TrimSuffix(fmt.Sprintln(l...), "\n")) }

// fresh is two labels.
func (w *lines) fresh() (f, g string) {
	w.labels++
	return fmt.Sprint("F", w.labels), fmt.Sprint("G", w.labels)
}

func (w *lines) text(s string) int {
	if !slices.Contains(*w.texts, s) {
		*w.texts = append(*w.texts, s)
	}
	return slices.Index(*w.texts, s)
}

func (w *lines) index(name string) int {
	return slices.IndexFunc(w.funcs, func(f api.Func) bool { return f.Name == name })
}

func (w *lines) kids(l []api.Expr) {
	for i := range l {
		w.expr(&l[i])
	}
}

func (w *lines) expr(e *api.Expr) {
	w.add("gas", 1)
	switch {
	case e.Op == api.ExprNum:
		w.add("num", e.Num)
	case e.Op == api.ExprBool && e.Num == 1:
		w.add("bool", 1)
	case e.Op == api.ExprBool:
		w.add("bool", 0)
	case e.Op == api.ExprText:
		w.add("text", w.text(e.Text))
	case e.Op == api.ExprName:
		w.add("load", w.slots[e])
	case e.Op == api.ExprTwo && e.Text == "&&":
		f, g := w.fresh()
		w.expr(&e.Kids[0])
		w.add("unless", f)
		w.expr(&e.Kids[1])
		w.add("jump", g)
		w.add(f + ":")
		w.add("bool", 0)
		w.add(g + ":")
	case e.Op == api.ExprTwo && e.Text == "||":
		f, g := w.fresh()
		w.expr(&e.Kids[0])
		w.add("unless", f)
		w.add("bool", 1)
		w.add("jump", g)
		w.add(f + ":")
		w.expr(&e.Kids[1])
		w.add(g + ":")
	default:
		w.kids(e.Kids)
		w.plain(e)
	}
}

// plain writes what follows the Kids.
func (w *lines) plain(e *api.Expr) {
	switch e.Op {
	case api.ExprCall:
		w.add("call", w.index(e.Text))
	case api.ExprTwo:
		w.add("two", e.Text)
	case api.ExprOne:
		w.add("one", e.Text)
	case api.ExprGet:
		w.add("get", 0)
	case api.ExprHas:
		w.add("has", 0)
	case api.ExprLen:
		w.add("len", 0)
	}
}

// bodyEnds is the sense of layer 5.
func bodyEnds(l []api.Stmt) bool {
	if len(l) == 0 {
		return false
	}
	s := l[len(l)-1]
	switch s.Op {
	case api.StmtReturn:
		return true
	case api.StmtIf:
		return bodyEnds(s.Body) && bodyEnds(s.Else)
	}
	return false
}

func (w *lines) block(l []api.Stmt) {
	for i := range l {
		w.stmt(&l[i])
	}
}

func (w *lines) stmt(s *api.Stmt) {
	w.add("gas", 1)
	w.kids(s.Exprs)
	switch s.Op {
	case api.StmtLet, api.StmtSet:
		w.add("store", w.slots[s])
	case api.StmtIf:
		f, g := w.fresh()
		w.add("unless", f)
		w.block(s.Body)
		if !bodyEnds(s.Body) {
			w.add("jump", g)
		}
		w.add(f + ":")
		w.block(s.Else)
		w.add(g + ":")
	case api.StmtFor:
		f, g := w.fresh()
		w.add("store", w.slots[s]+1)
		w.add("store", w.slots[s])
		w.add(f + ":")
		w.add("load", w.slots[s])
		w.add("load", w.slots[s]+1)
		w.add("two", "<")
		w.add("unless", g)
		w.add("gas", 1)
		w.block(s.Body)
		w.add("load", w.slots[s])
		w.add("num", 1)
		w.add("two", "+")
		w.add("store", w.slots[s])
		w.add("jump", f)
		w.add(g + ":")
	case api.StmtReturn:
		w.add("return", 0)
	case api.StmtPut:
		w.add("put", 0)
	case api.StmtDel:
		w.add("del", 0)
	case api.StmtDo:
		if w.funcs[w.index(s.Exprs[0].Text)].Result != api.TypeNone {
			w.add("drop", 0)
		}
	}
}

// assembled is the instructions of lines, whose labels are replaced by their places.
func assembled(l []string) []api.Instr {
	places := map[string]int{}
	var plain []string
	for _, line := range l {
		if label, ok := strings.CutSuffix(line, ":"); ok {
			places[label] = len(plain)
		} else {
			plain = append(plain, line)
		}
	}
	for i, line := range plain {
		op, arg, _ := strings.Cut(line, " ")
		if place, ok := places[arg]; ok {
			plain[i] = fmt.Sprint(op, " ", place)
		}
	}
	if len(plain) == 0 {
		return nil
	}
	return laid(strings.Join(plain, ", "))
}

// read is the module of a valid program, by the second reading.
func read(p api.Program) api.Module {
	var m api.Module
	var texts []string
	for _, f := range p.Funcs {
		c := api.Code{Name: f.Name, Result: f.Result}
		g := &slotting{given: map[any]int{}}
		for _, param := range f.Params {
			g.declare(param.Name, 1)
			c.Params = append(c.Params, param.Type)
		}
		g.block(f.Body)
		w := &lines{slots: g.given, funcs: p.Funcs, texts: &texts}
		w.block(f.Body)
		if f.Result == api.TypeNone {
			w.add("return", 0)
		}
		c.Slots, c.Instrs = g.next, assembled(w.out)
		m.Codes = append(m.Codes, c)
	}
	for _, s := range texts {
		m.Texts = append(m.Texts, []byte(s))
	}
	return m
}
