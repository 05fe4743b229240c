package verify

import (
	"covenant/api"
	"covenant/code"
)

// effect changes a state as an instruction does. It reports whether the instruction finds what it needs; where it leads is not looked at.
func (w *walk) effect(s *state, i api.Instr) bool {
	switch i.Op {
	case api.OpGas:
		return 0 <= i.A && i.A <= api.MaxGas
	case api.OpNum:
		return w.push(&s.stack, api.TypeInt)
	case api.OpBool:
		return within(i.A, 2) && w.push(&s.stack, api.TypeBool)
	case api.OpText:
		return within(i.A, len(w.module.Texts)) && w.push(&s.stack, api.TypeBytes)
	case api.OpLoad:
		return within(i.A, w.code.Slots) && w.push(&s.stack, s.slots.get(i.A))
	case api.OpStore:
		return within(i.A, w.code.Slots) && w.store(s, i.A)
	case api.OpTwo:
		second, first := w.pop(&s.stack), w.pop(&s.stack)
		return w.push(&s.stack, Made(code.Sign(i.A), first, second))
	case api.OpOne:
		t := operand(code.Sign(i.A))
		return t != api.TypeNone && w.replace(s, t, t)
	case api.OpGet:
		return w.replace(s, api.TypeBytes, api.TypeBytes)
	case api.OpHas:
		return w.replace(s, api.TypeBytes, api.TypeBool)
	case api.OpLen:
		return w.replace(s, api.TypeBytes, api.TypeInt)
	case api.OpPut:
		return w.popAll(&s.stack, api.TypeBytes, api.TypeBytes)
	case api.OpDel:
		return w.popAll(&s.stack, api.TypeBytes)
	case api.OpCall:
		return within(i.A, len(w.module.Codes)) && w.call(s, w.module.Codes[i.A])
	case api.OpUnless:
		return w.popAll(&s.stack, api.TypeBool)
	case api.OpDrop:
		return w.pop(&s.stack) != api.TypeNone
	case api.OpReturn:
		return w.result(s) && s.stack == empty
	}
	return true
}

// within reports whether there is an element with this index among so many.
func within(index int64, number int) bool { return 0 <= index && index < int64(number) }

// operand is the type ahead of which a sign stands, and which it makes; TypeNone: it stands ahead of nothing.
func operand(sign string) api.Type {
	switch sign {
	case "-":
		return api.TypeInt
	case "!":
		return api.TypeBool
	}
	return api.TypeNone
}

// store pops a type, which is that of a slot from then on.
func (w *walk) store(s *state, slot int64) bool {
	t := w.pop(&s.stack)
	s.slots.set(slot, t)
	return t != api.TypeNone
}

// replace pops one type and pushes another.
func (w *walk) replace(s *state, old, other api.Type) bool {
	return w.popAll(&s.stack, old) && w.push(&s.stack, other)
}

// call pops the parameters of a function and pushes what it returns.
func (w *walk) call(s *state, c api.Code) bool {
	return w.popAll(&s.stack, c.Params...) && (c.Result == api.TypeNone || w.push(&s.stack, c.Result))
}

// result pops what the function itself returns.
func (w *walk) result(s *state) bool {
	return w.code.Result == api.TypeNone || w.popAll(&s.stack, w.code.Result)
}
