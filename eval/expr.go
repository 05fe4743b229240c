package eval

import (
	"covenant/api"
	"covenant/arith"
	"covenant/meter"
)

func isTrue(v api.Value) bool { return v.Num == 1 }

// exprs returns the values of expressions, the first one first.
func (r *runner) exprs(l []api.Expr, names *scope) []api.Value {
	var values []api.Value
	for _, e := range l {
		values = append(values, r.expr(e, names))
	}
	return values
}

// expr returns the value of an expression.
func (r *runner) expr(e api.Expr, names *scope) api.Value {
	r.use(api.CostStep)
	switch e.Op {
	case api.ExprNum:
		return arith.Num(e.Num)
	case api.ExprBool:
		return arith.Bool(e.Num == 1)
	case api.ExprText:
		return arith.Text([]byte(e.Text))
	case api.ExprName:
		return names.value(e.Text)
	case api.ExprCall:
		return r.call(r.funcs[e.Text], r.exprs(e.Kids, names))
	case api.ExprTwo:
		return r.two(e, names)
	}
	return r.one(e, r.expr(e.Kids[0], names))
}

// two returns the value of a sign between two operands, of which && and || may need only the first one.
func (r *runner) two(e api.Expr, names *scope) api.Value {
	a := r.expr(e.Kids[0], names)
	switch e.Text {
	case "&&":
		if !isTrue(a) {
			return arith.Bool(false)
		}
		return r.expr(e.Kids[1], names)
	case "||":
		if isTrue(a) {
			return arith.Bool(true)
		}
		return r.expr(e.Kids[1], names)
	}
	b := r.expr(e.Kids[1], names)
	if e.Text == "+" && a.Type == api.TypeBytes {
		r.use(meter.Texts(len(a.Text) + len(b.Text)))
	}
	v, trap := arith.Two(e.Text, a, b)
	endOn(trap)
	return v
}

// one returns the value of an expression whose only Kid has the value kid.
func (r *runner) one(e api.Expr, kid api.Value) api.Value {
	switch e.Op {
	case api.ExprGet:
		value, _ := r.find(kid.Text)
		return arith.Text(value)
	case api.ExprHas:
		_, is := r.find(kid.Text)
		return arith.Bool(is)
	case api.ExprLen:
		return arith.Num(int64(len(kid.Text)))
	}
	v, trap := arith.One(e.Text, kid)
	endOn(trap)
	return v
}

// find returns the value that is stored at a key, and whether there is one.
func (r *runner) find(key []byte) ([]byte, bool) {
	r.use(api.CostGet)
	return r.store.Get(key)
}
