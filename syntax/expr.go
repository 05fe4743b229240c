package syntax

import "covenant/api"

// expr reads an expression of a depth.
func (r *reader) expr(deep int) api.Expr {
	r.bound(deep)
	conjunction := func() api.Expr {
		return r.grouped(func() api.Expr { return r.comparison(deep) }, "&&")
	}
	return r.grouped(conjunction, "||")
}

// single reads one expression.
func (r *reader) single(deep int) []api.Expr { return []api.Expr{r.expr(deep)} }

// enclosed reads one expression in parentheses.
func (r *reader) enclosed(deep int) []api.Expr {
	r.want("(")
	l := r.single(deep)
	r.want(")")
	return l
}

// pair reads two expressions in parentheses.
func (r *reader) pair(deep int) []api.Expr {
	r.want("(")
	l := r.single(deep)
	r.want(",")
	l = append(l, r.expr(deep))
	r.want(")")
	return l
}

// grouped reads operands with signs of one rank between them, grouped from the left.
func (r *reader) grouped(operand func() api.Expr, signs ...string) api.Expr {
	left := operand()
	for r.sees(signs...) {
		left = r.joined(left, operand)
	}
	return left
}

// joined reads a sign and the operand after it.
func (r *reader) joined(left api.Expr, operand func() api.Expr) api.Expr {
	sign := r.take(api.TokSign)
	return api.Expr{Op: api.ExprTwo, Text: sign.Text, Kids: []api.Expr{left, operand()}, At: sign.At}
}

// comparison reads at most one sign of its rank, unlike the other ranks.
func (r *reader) comparison(deep int) api.Expr {
	product := func() api.Expr {
		return r.grouped(func() api.Expr { return r.one(deep) }, "*", "/", "%")
	}
	sum := func() api.Expr { return r.grouped(product, "+", "-") }
	left := sum()
	if !r.sees("==", "!=", "<", "<=", ">", ">=") {
		return left
	}
	return r.joined(left, sum)
}

// one reads a primary expression behind any number of prefix signs.
func (r *reader) one(deep int) api.Expr {
	if !r.sees("-", "!") {
		return r.primary(deep)
	}
	sign := r.take(api.TokSign)
	r.bound(deep + 1)
	return api.Expr{Op: api.ExprOne, Text: sign.Text, Kids: []api.Expr{r.one(deep + 1)}, At: sign.At}
}

// primary reads what stands between signs, within an expression of a depth.
func (r *reader) primary(deep int) api.Expr {
	t := r.peek()
	switch t.Kind {
	case api.TokNum:
		r.next++
		return api.Expr{Op: api.ExprNum, Num: t.Num, At: t.At}
	case api.TokText:
		r.next++
		return api.Expr{Op: api.ExprText, Text: t.Text, At: t.At}
	case api.TokName:
		return r.named(deep + 1)
	}
	if r.sees("(") {
		return r.enclosed(deep + 1)[0]
	}
	e := r.worded(deep + 1)
	e.At = t.At
	return e
}

// named reads a name, or a call whose arguments have a depth.
func (r *reader) named(deep int) api.Expr {
	t := r.take(api.TokName)
	e := api.Expr{Op: api.ExprName, Text: t.Text, At: t.At}
	if r.sees("(") {
		e.Op = api.ExprCall
		r.list(func() { e.Kids = append(e.Kids, r.expr(deep)) })
	}
	return e
}

// worded reads an expression that begins with a keyword, and whose operand has a depth.
func (r *reader) worded(deep int) api.Expr {
	switch {
	case r.accept("true"):
		return api.Expr{Op: api.ExprBool, Num: 1}
	case r.accept("false"):
		return api.Expr{Op: api.ExprBool}
	case r.accept("get"):
		return api.Expr{Op: api.ExprGet, Kids: r.enclosed(deep)}
	case r.accept("has"):
		return api.Expr{Op: api.ExprHas, Kids: r.enclosed(deep)}
	}
	r.want("len")
	return api.Expr{Op: api.ExprLen, Kids: r.enclosed(deep)}
}
