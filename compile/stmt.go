package compile

import (
	"covenant/api"
	"covenant/code"
)

// block translates statements. It reports whether the block ends in the sense of layer 5, which its last statement determines.
func (t *translator) block(l []api.Stmt) bool {
	ends := false
	for _, s := range l {
		ends = t.statement(s)
	}
	return ends
}

// statement translates one statement, and reports what block does.
func (t *translator) statement(s api.Stmt) bool {
	t.put(api.OpGas, api.CostStep)
	t.exprs(s.Exprs)
	switch s.Op {
	case api.StmtLet:
		t.put(api.OpStore, t.declare(s.Text))
	case api.StmtSet:
		t.put(api.OpStore, t.slots[s.Text])
	case api.StmtIf:
		return t.choose(func() bool { return t.block(s.Body) }, func() bool { return t.block(s.Else) })
	case api.StmtFor:
		t.loop(s)
	case api.StmtReturn:
		t.put(api.OpReturn, 0)
		return true
	case api.StmtPut:
		t.put(api.OpPut, 0)
	case api.StmtDel:
		t.put(api.OpDel, 0)
	case api.StmtDo:
		t.discard(s.Exprs[0])
	}
	return false
}

// loop translates a for whose two bounds are on the stack.
func (t *translator) loop(s api.Stmt) {
	name := t.declare(s.Text)
	end := t.slot()
	var behind label
	t.put(api.OpStore, end)
	t.put(api.OpStore, name)
	round := t.here()
	t.put(api.OpLoad, name)
	t.put(api.OpLoad, end)
	t.put(api.OpTwo, code.Number("<"))
	t.jump(api.OpUnless, &behind)
	t.put(api.OpGas, api.CostStep)
	t.block(s.Body)
	t.put(api.OpLoad, name)
	t.put(api.OpNum, 1)
	t.put(api.OpTwo, code.Number("+"))
	t.put(api.OpStore, name)
	t.put(api.OpJump, round)
	t.mark(&behind)
}

// discard drops what a call returned, if it returned something.
func (t *translator) discard(call api.Expr) {
	if t.funcs[call.Text].result != api.TypeNone {
		t.put(api.OpDrop, 0)
	}
}
