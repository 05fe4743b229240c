package compile

import (
	"covenant/api"
	"covenant/code"
)

// exprs translates expressions, the first one first.
func (t *translator) exprs(l []api.Expr) {
	for _, e := range l {
		t.expr(e)
	}
}

// expr translates an expression, whose value is on the stack behind it.
func (t *translator) expr(e api.Expr) {
	t.put(api.OpGas, api.CostStep)
	if e.Op == api.ExprTwo && (e.Text == "&&" || e.Text == "||") {
		t.lazy(e)
		return
	}
	t.exprs(e.Kids)
	t.put(t.operation(e))
}

// lazy translates && and ||, which need their second Kid only if the first one doesn't decide.
func (t *translator) lazy(e api.Expr) {
	second := func() bool {
		t.expr(e.Kids[1])
		return false
	}
	decided := func(value int64) func() bool {
		return func() bool {
			t.put(api.OpBool, value)
			return false
		}
	}
	t.expr(e.Kids[0])
	if e.Text == "&&" {
		t.choose(second, decided(0))
	} else {
		t.choose(decided(1), second)
	}
}

// operation returns the instruction that makes the value of an expression of those of its Kids.
func (t *translator) operation(e api.Expr) (api.Op, int64) {
	switch e.Op {
	case api.ExprNum:
		return api.OpNum, e.Num
	case api.ExprBool:
		if e.Num == 1 {
			return api.OpBool, 1
		}
		return api.OpBool, 0
	case api.ExprText:
		return api.OpText, t.text(e.Text)
	case api.ExprName:
		return api.OpLoad, t.slots[e.Text]
	case api.ExprCall:
		return api.OpCall, t.funcs[e.Text].index
	case api.ExprTwo:
		return api.OpTwo, code.Number(e.Text)
	case api.ExprOne:
		return api.OpOne, code.Number(e.Text)
	case api.ExprGet:
		return api.OpGet, 0
	case api.ExprHas:
		return api.OpHas, 0
	}
	return api.OpLen, 0
}
