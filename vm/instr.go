package vm

import (
	"covenant/api"
	"covenant/arith"
	"covenant/code"
	"covenant/meter"
)

// execute executes an instruction of the function that is running.
func (m *machine) execute(f *frame, i api.Instr) api.Trap {
	switch i.Op {
	case api.OpGas:
		return m.use(i.A)
	case api.OpNum:
		f.push(arith.Num(i.A))
	case api.OpBool:
		f.push(arith.Bool(i.A == 1))
	case api.OpText:
		f.push(arith.Text(m.module.Texts[i.A]))
	case api.OpLoad:
		f.push(f.slots[i.A])
	case api.OpStore:
		f.slots[i.A] = f.pop()
	case api.OpTwo:
		return m.two(f, code.Sign(i.A))
	case api.OpOne:
		v, trap := arith.One(code.Sign(i.A), f.pop())
		f.push(v)
		return trap
	case api.OpGet, api.OpHas:
		return m.find(f, i.Op)
	case api.OpLen:
		f.push(arith.Num(int64(len(f.pop().Text))))
	case api.OpPut:
		pair := f.take(2)
		return m.put(pair[0].Text, pair[1].Text)
	case api.OpDel:
		return m.del(f.pop().Text)
	case api.OpCall:
		c := m.module.Codes[i.A]
		return m.enter(c, f.take(len(c.Params)))
	case api.OpUnless:
		if isTrue(f.pop()) {
			break
		}
		fallthrough
	case api.OpJump:
		f.place = i.A
	case api.OpDrop:
		f.pop()
	case api.OpReturn:
		m.leave(f)
	}
	return api.TrapNone
}

func isTrue(v api.Value) bool { return v.Num == 1 }

// two applies a sign to the two values on top of the stack.
func (m *machine) two(f *frame, sign string) api.Trap {
	operands := f.take(2)
	a, b := operands[0], operands[1]
	if sign == "+" && a.Type == api.TypeBytes {
		if trap := m.use(meter.Texts(len(a.Text) + len(b.Text))); trap != api.TrapNone {
			return trap
		}
	}
	v, trap := arith.Two(sign, a, b)
	f.push(v)
	return trap
}

// find looks a key up, for OpGet or OpHas.
func (m *machine) find(f *frame, op api.Op) api.Trap {
	key := f.pop().Text
	if trap := m.use(api.CostGet); trap != api.TrapNone {
		return trap
	}
	value, is := m.store.Get(key)
	if op == api.OpGet {
		f.push(arith.Text(value))
	} else {
		f.push(arith.Bool(is))
	}
	return api.TrapNone
}

func (m *machine) put(key, value []byte) api.Trap {
	if trap := m.use(meter.Put(len(key), len(value))); trap != api.TrapNone {
		return trap
	}
	switch m.store.Put(key, value) {
	case api.ErrArg:
		return api.TrapSize
	case api.ErrQuota:
		return api.TrapQuota
	}
	return api.TrapNone
}

func (m *machine) del(key []byte) api.Trap {
	if trap := m.use(api.CostPut); trap != api.TrapNone {
		return trap
	}
	m.store.Del(key)
	return api.TrapNone
}
