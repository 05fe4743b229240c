package types

import "covenant/api"

// is returns what reports whether a type is a certain one.
func is(want api.Type) func(t api.Type) bool {
	return func(t api.Type) bool { return t == want }
}

func isValue(t api.Type) bool { return t != api.TypeNone }

// operand returns the type of an expression. It must be one that fits.
func (c *checker) operand(e api.Expr, names scope, fits func(t api.Type) bool) (api.Type, *fault) {
	t, wrong := c.expr(e, names)
	if wrong != nil {
		return api.TypeNone, wrong
	}
	if !fits(t) {
		return api.TypeNone, &fault{api.ErrType, e.At}
	}
	return t, nil
}

// operands checks expressions whose types must all fit, each type ahead of the next expression.
func (c *checker) operands(l []api.Expr, names scope, fits func(t api.Type) bool) *fault {
	return first(l, func(e api.Expr) *fault {
		_, wrong := c.operand(e, names, fits)
		return wrong
	})
}

// operator is what a sign between two operands asks of each of them, and what it makes of two of the same type.
type operator struct {
	takes func(t api.Type) bool
	gives func(t api.Type) api.Type
}

// operatorOf reports whether a sign is one that stands between two operands.
func operatorOf(sign string) (operator, bool) {
	always := func(result api.Type) func(api.Type) api.Type {
		return func(api.Type) api.Type { return result }
	}
	switch sign {
	case "+":
		joins := func(t api.Type) bool { return t == api.TypeInt || t == api.TypeBytes }
		return operator{joins, func(t api.Type) api.Type { return t }}, true
	case "-", "*", "/", "%":
		return operator{is(api.TypeInt), always(api.TypeInt)}, true
	case "==", "!=":
		return operator{isValue, always(api.TypeBool)}, true
	case "<", "<=", ">", ">=":
		return operator{is(api.TypeInt), always(api.TypeBool)}, true
	case "&&", "||":
		return operator{is(api.TypeBool), always(api.TypeBool)}, true
	}
	return operator{}, false
}

// hasKids reports whether an expression has the Kids that syntax gives one of its kind, and a sign of its kind.
func hasKids(e api.Expr) bool {
	kids := len(e.Kids)
	switch e.Op {
	case api.ExprNum, api.ExprBool, api.ExprText, api.ExprName:
		return kids == 0
	case api.ExprCall:
		return true
	case api.ExprTwo:
		_, ok := operatorOf(e.Text)
		return kids == 2 && ok
	case api.ExprOne:
		return kids == 1 && (e.Text == "-" || e.Text == "!")
	case api.ExprGet, api.ExprHas, api.ExprLen:
		return kids == 1
	}
	return false
}

// expr returns the type of an expression.
func (c *checker) expr(e api.Expr, names scope) (api.Type, *fault) {
	if !hasKids(e) {
		return api.TypeNone, &fault{api.ErrType, e.At}
	}
	switch e.Op {
	case api.ExprNum:
		return api.TypeInt, nil
	case api.ExprBool:
		return api.TypeBool, nil
	case api.ExprText:
		return api.TypeBytes, nil
	case api.ExprName:
		return c.name(e, names)
	case api.ExprCall:
		return c.call(e, names)
	case api.ExprTwo:
		return c.two(e, names)
	}
	return c.one(e, names)
}

func (c *checker) name(e api.Expr, names scope) (api.Type, *fault) {
	l, ok := names[e.Text]
	if !ok {
		return api.TypeNone, &fault{api.ErrName, e.At}
	}
	return l.kind, nil
}

func (c *checker) call(e api.Expr, names scope) (api.Type, *fault) {
	f, ok := c.funcs[e.Text]
	if !ok {
		return api.TypeNone, &fault{api.ErrName, e.At}
	}
	if len(e.Kids) != len(f.Params) {
		return api.TypeNone, &fault{api.ErrType, e.At}
	}
	for i, kid := range e.Kids {
		if _, wrong := c.operand(kid, names, is(f.Params[i].Type)); wrong != nil {
			return api.TypeNone, wrong
		}
	}
	return f.Result, nil
}

func (c *checker) two(e api.Expr, names scope) (api.Type, *fault) {
	sign, _ := operatorOf(e.Text)
	left, wrong := c.operand(e.Kids[0], names, sign.takes)
	if wrong != nil {
		return api.TypeNone, wrong
	}
	right, wrong := c.operand(e.Kids[1], names, sign.takes)
	if wrong != nil {
		return api.TypeNone, wrong
	}
	if left != right {
		return api.TypeNone, &fault{api.ErrType, e.At}
	}
	return sign.gives(left), nil
}

func (c *checker) one(e api.Expr, names scope) (api.Type, *fault) {
	takes, gives := unary(e)
	if wrong := c.operands(e.Kids, names, is(takes)); wrong != nil {
		return api.TypeNone, wrong
	}
	return gives, nil
}

// unary returns the type that an expression of one Kid asks of it, and its own.
func unary(e api.Expr) (takes, gives api.Type) {
	switch e.Op {
	case api.ExprGet:
		return api.TypeBytes, api.TypeBytes
	case api.ExprHas:
		return api.TypeBytes, api.TypeBool
	case api.ExprLen:
		return api.TypeBytes, api.TypeInt
	}
	if e.Text == "-" {
		return api.TypeInt, api.TypeInt
	}
	return api.TypeBool, api.TypeBool
}
