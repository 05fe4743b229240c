package types

import (
	"maps"

	"covenant/api"
)

// local is what is known of a name in scope.
type local struct {
	kind api.Type
	loop bool // the name of a for, which no statement sets
}

// scope has the names that are in scope at a place. A block gets a clone, so that what it declares is gone behind it.
type scope map[string]local

// declare adds a name; at is where it is declared.
func (names scope) declare(name string, l local, at int) *fault {
	if _, ok := names[name]; ok {
		return &fault{api.ErrTwice, at}
	}
	names[name] = l
	return nil
}

// checker checks what the body of a function consists of.
type checker struct {
	funcs  map[string]api.Func
	result api.Type // of the function whose body it is
}

// block checks statements, which declare names in a scope of their own.
func (c *checker) block(l []api.Stmt, names scope) *fault {
	return first(l, func(s api.Stmt) *fault { return c.statement(s, names) })
}

// hasParts reports whether a statement has the parts that syntax gives one of its kind.
func hasParts(s api.Stmt) bool {
	exprs, plain := len(s.Exprs), len(s.Body) == 0 && len(s.Else) == 0
	switch s.Op {
	case api.StmtLet, api.StmtSet, api.StmtDel, api.StmtDo:
		return exprs == 1 && plain
	case api.StmtPut:
		return exprs == 2 && plain
	case api.StmtReturn:
		return exprs <= 1 && plain
	case api.StmtIf:
		return exprs == 1
	case api.StmtFor:
		return exprs == 2 && len(s.Else) == 0
	}
	return false
}

func (c *checker) statement(s api.Stmt, names scope) *fault {
	if !hasParts(s) {
		return &fault{api.ErrType, s.At}
	}
	switch s.Op {
	case api.StmtLet:
		return c.let(s, names)
	case api.StmtSet:
		return c.set(s, names)
	case api.StmtIf:
		return c.choice(s, names)
	case api.StmtFor:
		return c.loop(s, names)
	case api.StmtReturn:
		return c.end(s, names)
	case api.StmtDo:
		return c.do(s, names)
	}
	return c.operands(s.Exprs, names, is(api.TypeBytes))
}

func (c *checker) let(s api.Stmt, names scope) *fault {
	t, wrong := c.operand(s.Exprs[0], names, isValue)
	if wrong != nil {
		return wrong
	}
	return names.declare(s.Text, local{kind: t}, s.At)
}

func (c *checker) set(s api.Stmt, names scope) *fault {
	l, ok := names[s.Text]
	if !ok {
		return &fault{api.ErrName, s.At}
	}
	if l.loop {
		return &fault{api.ErrType, s.At}
	}
	return c.operands(s.Exprs, names, is(l.kind))
}

func (c *checker) choice(s api.Stmt, names scope) *fault {
	if wrong := c.operands(s.Exprs, names, is(api.TypeBool)); wrong != nil {
		return wrong
	}
	if wrong := c.block(s.Body, maps.Clone(names)); wrong != nil {
		return wrong
	}
	return c.block(s.Else, maps.Clone(names))
}

func (c *checker) loop(s api.Stmt, names scope) *fault {
	if wrong := c.operands(s.Exprs, names, is(api.TypeInt)); wrong != nil {
		return wrong
	}
	inner := maps.Clone(names)
	if wrong := inner.declare(s.Text, local{kind: api.TypeInt, loop: true}, s.At); wrong != nil {
		return wrong
	}
	return c.block(s.Body, inner)
}

// end checks a return. Without a Result no expression fits, not even a call of a function that has none.
func (c *checker) end(s api.Stmt, names scope) *fault {
	if len(s.Exprs) == 0 && c.result != api.TypeNone {
		return &fault{api.ErrType, s.At}
	}
	return c.operands(s.Exprs, names, func(t api.Type) bool { return isValue(t) && t == c.result })
}

func (c *checker) do(s api.Stmt, names scope) *fault {
	isCall := s.Exprs[0].Op == api.ExprCall
	return c.operands(s.Exprs, names, func(api.Type) bool { return isCall })
}
