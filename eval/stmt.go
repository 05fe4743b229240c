package eval

import (
	"covenant/api"
	"covenant/arith"
	"covenant/meter"
)

// block executes statements. It reports whether one of them was a return, which ends the function with this value.
func (r *runner) block(l []api.Stmt, names *scope) (api.Value, bool) {
	for _, s := range l {
		if v, returned := r.statement(s, names); returned {
			return v, true
		}
	}
	return api.Value{}, false
}

// statement executes one statement, and reports what block does.
func (r *runner) statement(s api.Stmt, names *scope) (api.Value, bool) {
	r.use(api.CostStep)
	switch s.Op {
	case api.StmtIf:
		return r.choice(s, names)
	case api.StmtFor:
		return r.loop(s, names)
	}
	values := r.exprs(s.Exprs, names)
	switch s.Op {
	case api.StmtLet:
		names.declare(s.Text, values[0])
	case api.StmtSet:
		names.set(s.Text, values[0])
	case api.StmtReturn:
		return returned(values), true
	case api.StmtPut:
		r.put(values[0].Text, values[1].Text)
	case api.StmtDel:
		r.del(values[0].Text)
	}
	return api.Value{}, false
}

// returned is the value of a return, with or without an expression.
func returned(values []api.Value) api.Value {
	if len(values) == 0 {
		return api.Value{}
	}
	return values[0]
}

func (r *runner) choice(s api.Stmt, names *scope) (api.Value, bool) {
	if isTrue(r.expr(s.Exprs[0], names)) {
		return r.block(s.Body, names.inner())
	}
	return r.block(s.Else, names.inner())
}

func (r *runner) loop(s api.Stmt, names *scope) (api.Value, bool) {
	bounds := r.exprs(s.Exprs, names)
	counted := names.inner()
	// The last round is one below a bound that is an int, so that i does not overflow.
	for i := bounds[0].Num; i < bounds[1].Num; i++ {
		r.use(api.CostStep)
		counted.declare(s.Text, arith.Num(i))
		if v, returned := r.block(s.Body, counted.inner()); returned {
			return v, true
		}
	}
	return api.Value{}, false
}

func (r *runner) put(key, value []byte) {
	r.use(meter.Put(len(key), len(value)))
	switch r.store.Put(key, value) {
	case api.ErrArg:
		endOn(api.TrapSize)
	case api.ErrQuota:
		endOn(api.TrapQuota)
	}
}

func (r *runner) del(key []byte) {
	r.use(api.CostPut)
	r.store.Del(key)
}
