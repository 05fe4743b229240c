package syntax

import (
	"strconv"
	"strings"

	"covenant/api"
)

// Show returns the text of a program.
func Show(p api.Program) string {
	w := &writer{}
	for _, f := range p.Funcs {
		w.function(f)
	}
	return w.text.String()
}

// writer collects a text from its beginning on, so that what is deep is not copied at each level.
type writer struct{ text strings.Builder }

func (w *writer) put(parts ...string) {
	for _, s := range parts {
		w.text.WriteString(s)
	}
}

// list puts n parts in parentheses with commas between them.
func (w *writer) list(n int, part func(i int)) {
	w.put("(")
	for i := range n {
		if i > 0 {
			w.put(", ")
		}
		part(i)
	}
	w.put(")")
}

func (w *writer) function(f api.Func) {
	w.put("fn ", f.Name)
	w.list(len(f.Params), func(i int) {
		w.put(f.Params[i].Name, ": ", typeName(f.Params[i].Type))
	})
	if f.Result != api.TypeNone {
		w.put(": ", typeName(f.Result))
	}
	w.put(" ")
	w.block(f.Body)
	w.put("\n")
}

func typeName(t api.Type) string {
	switch t {
	case api.TypeInt:
		return "int"
	case api.TypeBool:
		return "bool"
	case api.TypeBytes:
		return "bytes"
	}
	return ""
}

func (w *writer) block(body []api.Stmt) {
	w.put("{")
	for _, s := range body {
		w.put(" ")
		w.statement(s)
	}
	w.put(" }")
}

func (w *writer) statement(s api.Stmt) {
	switch s.Op {
	case api.StmtLet:
		w.put("let ")
		w.assignment(s)
		w.put(";")
	case api.StmtSet:
		w.assignment(s)
		w.put(";")
	case api.StmtIf:
		w.choice(s)
	case api.StmtFor:
		w.put("for ")
		w.assignment(s)
		w.put(" to ")
		w.exprAt(s.Exprs, 1)
		w.put(" ")
		w.block(s.Body)
	case api.StmtReturn:
		w.put("return")
		if len(s.Exprs) > 0 {
			w.put(" ")
			w.exprAt(s.Exprs, 0)
		}
		w.put(";")
	case api.StmtPut:
		w.operation("put", 2, s.Exprs)
		w.put(";")
	case api.StmtDel:
		w.operation("del", 1, s.Exprs)
		w.put(";")
	case api.StmtDo:
		w.exprAt(s.Exprs, 0)
		w.put(";")
	}
}

func (w *writer) assignment(s api.Stmt) {
	w.put(s.Text, " = ")
	w.exprAt(s.Exprs, 0)
}

func (w *writer) choice(s api.Stmt) {
	w.put("if ")
	w.exprAt(s.Exprs, 0)
	w.put(" ")
	w.block(s.Body)
	if len(s.Else) > 0 {
		w.put(" else ")
		w.block(s.Else)
	}
}

// operation puts a word and its n operands.
func (w *writer) operation(word string, n int, l []api.Expr) {
	w.put(word)
	w.list(n, func(i int) { w.exprAt(l, i) })
}

// exprAt puts nothing for an expression that is not there.
func (w *writer) exprAt(l []api.Expr, i int) {
	if i < len(l) {
		w.expr(l[i])
	}
}

func (w *writer) expr(e api.Expr) {
	switch e.Op {
	case api.ExprNum:
		w.put(strconv.FormatInt(e.Num, 10))
	case api.ExprBool:
		w.put(strconv.FormatBool(e.Num == 1))
	case api.ExprText:
		w.put("\"", e.Text, "\"")
	case api.ExprName:
		w.put(e.Text)
	case api.ExprCall:
		w.operation(e.Text, len(e.Kids), e.Kids)
	case api.ExprTwo:
		w.put("(")
		w.exprAt(e.Kids, 0)
		w.put(" ", e.Text, " ")
		w.exprAt(e.Kids, 1)
		w.put(")")
	case api.ExprOne:
		w.put(e.Text)
		w.exprAt(e.Kids, 0)
	case api.ExprGet:
		w.operation("get", 1, e.Kids)
	case api.ExprHas:
		w.operation("has", 1, e.Kids)
	case api.ExprLen:
		w.operation("len", 1, e.Kids)
	}
}
