package syntax

import (
	"slices"

	"covenant/api"
)

// fault is what a reader panics with at the first error.
type fault struct {
	err api.Errno
	at  int
}

// reader visits the tokens of a source.
type reader struct {
	tokens []api.Token
	next   int
	end    int // the length of the source
}

func (r *reader) fail(err api.Errno) { panic(fault{err, r.peek().At}) }

// peek returns the next token. Behind the last one there is a token of no kind, so that what is missing there is told like any other wrong token.
func (r *reader) peek() api.Token {
	if r.next == len(r.tokens) {
		return api.Token{At: r.end}
	}
	return r.tokens[r.next]
}

// take passes the next token if it is of a kind.
func (r *reader) take(kind api.TokenKind) api.Token {
	t := r.peek()
	if t.Kind != kind {
		r.fail(api.ErrSyntax)
	}
	r.next++
	return t
}

func (r *reader) name() string { return r.take(api.TokName).Text }

// isSign reports whether a token is one of these signs. The text of a string may look like a sign.
func isSign(t api.Token, signs ...string) bool {
	return t.Kind == api.TokSign && slices.Contains(signs, t.Text)
}

// sees reports whether the next token is one of these signs.
func (r *reader) sees(signs ...string) bool { return isSign(r.peek(), signs...) }

// accept passes the next token if it is this sign, and reports whether it was.
func (r *reader) accept(sign string) bool {
	if !r.sees(sign) {
		return false
	}
	r.next++
	return true
}

func (r *reader) want(sign string) {
	if !r.accept(sign) {
		r.fail(api.ErrSyntax)
	}
}

// bound is called ahead of a part of its own depth, before any token of it is looked at.
func (r *reader) bound(deep int) {
	if deep > api.MaxDeep {
		r.fail(api.ErrDeep)
	}
}

// list reads parts in parentheses with commas between them, or no parts.
func (r *reader) list(part func()) {
	r.want("(")
	if r.accept(")") {
		return
	}
	part()
	for r.accept(",") {
		part()
	}
	r.want(")")
}

func (r *reader) program() api.Program {
	var p api.Program
	for r.next < len(r.tokens) {
		p.Funcs = append(p.Funcs, r.function())
	}
	return p
}

func (r *reader) function() api.Func {
	f := api.Func{At: r.peek().At}
	r.want("fn")
	f.Name = r.name()
	r.list(func() {
		name := r.name()
		r.want(":")
		f.Params = append(f.Params, api.Param{Name: name, Type: r.valueType()})
	})
	if r.accept(":") {
		f.Result = r.valueType()
	}
	f.Body = r.block(1)
	return f
}

func (r *reader) valueType() api.Type {
	switch {
	case r.accept("int"):
		return api.TypeInt
	case r.accept("bool"):
		return api.TypeBool
	}
	r.want("bytes")
	return api.TypeBytes
}

func (r *reader) block(deep int) []api.Stmt {
	r.bound(deep)
	r.want("{")
	var body []api.Stmt
	for !r.accept("}") {
		body = append(body, r.statement(deep+1))
	}
	return body
}

// statement reads a statement whose own blocks and expressions have a depth.
func (r *reader) statement(deep int) api.Stmt {
	at := r.peek().At
	var s api.Stmt
	switch {
	case r.accept("if"):
		s = r.choice(deep)
	case r.accept("for"):
		s = r.loop(deep)
	default:
		s = r.simple(deep)
		r.want(";")
	}
	s.At = at
	return s
}

func (r *reader) choice(deep int) api.Stmt {
	s := api.Stmt{Op: api.StmtIf, Exprs: r.single(deep)}
	s.Body = r.block(deep)
	if r.accept("else") {
		s.Else = r.block(deep)
	}
	return s
}

func (r *reader) loop(deep int) api.Stmt {
	s := r.assignment(api.StmtFor, deep)
	r.want("to")
	s.Exprs = append(s.Exprs, r.expr(deep))
	s.Body = r.block(deep)
	return s
}

// simple reads a statement that ends with a semicolon, but not the semicolon.
func (r *reader) simple(deep int) api.Stmt {
	switch {
	case r.accept("let"):
		return r.assignment(api.StmtLet, deep)
	case r.accept("return"):
		if r.sees(";") {
			return api.Stmt{Op: api.StmtReturn}
		}
		return api.Stmt{Op: api.StmtReturn, Exprs: r.single(deep)}
	case r.accept("put"):
		return api.Stmt{Op: api.StmtPut, Exprs: r.pair(deep)}
	case r.accept("del"):
		return api.Stmt{Op: api.StmtDel, Exprs: r.enclosed(deep)}
	case r.sets():
		return r.assignment(api.StmtSet, deep)
	}
	return api.Stmt{Op: api.StmtDo, Exprs: r.single(deep)}
}

// sets reports whether a name and the sign = are next.
func (r *reader) sets() bool {
	rest := r.tokens[r.next:]
	return len(rest) > 1 && rest[0].Kind == api.TokName && isSign(rest[1], "=")
}

// assignment reads a name, the sign = and an expression.
func (r *reader) assignment(op api.StmtOp, deep int) api.Stmt {
	s := api.Stmt{Op: op, Text: r.name()}
	r.want("=")
	s.Exprs = r.single(deep)
	return s
}
