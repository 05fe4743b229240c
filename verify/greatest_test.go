package verify

import (
	"bytes"
	"slices"
	"strings"
	"testing"

	"covenant/api"
)

// greatest is the greatest module that is valid. Each function stores all slots, goes up to the highest stack and down again, joins all texts, calls the next function, and ends with other instructions at its very end.
func greatest(end string) api.Module {
	m := api.Module{}
	for range api.MaxRow {
		m.Texts = append(m.Texts, bytes.Repeat([]byte("t"), api.MaxText))
	}
	for _, name := range many(api.MaxCodes) {
		name += strings.Repeat("n", api.MaxName-len(name))
		c := api.Code{Name: name, Params: types(strings.Repeat("ibs", 5) + "i"), Result: api.TypeBool, Slots: api.MaxSlots}
		for slot := range api.MaxSlots {
			c.Instrs = append(c.Instrs, stored(slot, "b")...)
		}
		for range api.MaxStack {
			c.Instrs = append(c.Instrs, api.Instr{Op: api.OpLoad, A: 255})
		}
		for range api.MaxStack {
			c.Instrs = append(c.Instrs, api.Instr{Op: api.OpDrop})
		}
		c.Instrs = append(c.Instrs, lay("text 0")...)
		for i := range api.MaxRow {
			c.Instrs = append(c.Instrs, api.Instr{Op: api.OpText, A: int64(i)}, api.Instr{Op: api.OpTwo, A: 1})
		}
		c.Instrs = append(c.Instrs, lay("drop")...)
		last := append(pushes(strings.Repeat("ibs", 5)+"i"), lay(end)...)
		c.Instrs = slices.Concat(c.Instrs, make([]api.Instr, api.MaxInstrs-len(c.Instrs)-len(last)), last)
		m.Codes = append(m.Codes, c)
	}
	for k, c := range m.Codes {
		for at, i := range c.Instrs {
			if i.Op == 0 {
				c.Instrs[at] = api.Instr{Op: api.OpGas, A: api.MaxGas}
			}
			if i.Op == api.OpCall {
				c.Instrs[at].A = int64(k+1) % api.MaxCodes
			}
		}
	}
	return m
}

// P1 and P13.1: the greatest modules that are valid, and what is a little more or a little wrong.
func TestGreatest(t *testing.T) {
	m := greatest("call 0, return")
	if e := Check(m); e != api.OK {
		t.Fatal(e)
	}
	last := &m.Codes[api.MaxCodes-1]
	at := len(last.Instrs) - 1
	for _, i := range lay("gas 1, drop, jump 16384, jump -1, unless 0, call 64") {
		old := last.Instrs[at]
		last.Instrs[at] = i
		if e := Check(m); e != api.ErrStack {
			t.Errorf("%+v: %v", i, e)
		}
		last.Instrs[at] = old
	}
	last.Instrs[at] = api.Instr{Op: api.OpUnless, A: int64(at)}
	if e := Check(m); e != api.ErrStack {
		t.Error(e)
	}
	last.Instrs[at] = api.Instr{Op: api.OpJump, A: int64(at)}
	if e := Check(m); e != api.OK {
		t.Error(e)
	}
	last.Instrs = append(last.Instrs, api.Instr{Op: api.OpReturn})
	if e := Check(m); e != api.ErrCode {
		t.Error(e)
	}
	last.Instrs = last.Instrs[:at]
	if e := Check(m); e != api.ErrStack {
		t.Error(e)
	}
	last.Instrs = lay("jump 0")
	m.Codes = append(m.Codes, fn("more", "", "", 0, "return"))
	if e := Check(m); e != api.ErrCode {
		t.Error(e)
	}
}

// P1: functions of nothing but one instruction, as often as there may be.
func TestGreatestOfOneKind(t *testing.T) {
	for op := api.OpGas; op <= api.OpReturn; op++ {
		for _, a := range []int64{0, 1, 2, 12, api.MaxInstrs - 1} {
			c := fn("f", "", "", 9, "")
			for range api.MaxInstrs {
				c.Instrs = append(c.Instrs, api.Instr{Op: op, A: a})
			}
			want := api.ErrStack
			if op == api.OpJump || op == api.OpReturn {
				want = api.OK
			}
			if e := Check(module(c)); e != want {
				t.Errorf("%s %d: %v", ops[op-1], a, e)
			}
		}
	}
}

// P1 and P13.1: as many ways as there may be, which all meet at one instruction.
func TestGreatestNumberOfWays(t *testing.T) {
	for _, meet := range []int64{0, 1, 7, api.MaxInstrs - 1} {
		c := fn("f", "b", "", 1, "")
		for range api.MaxInstrs/2 - 1 {
			c.Instrs = append(c.Instrs, api.Instr{Op: api.OpLoad}, api.Instr{Op: api.OpUnless, A: meet})
		}
		c.Instrs = append(c.Instrs, lay("gas 1, return")...)
		want := api.OK
		// An instruction at an odd place finds a bool on the stack.
		if meet == 1 || meet == 7 {
			want = api.ErrStack
		}
		if e := Check(module(c)); e != want {
			t.Errorf("%d: %v", meet, e)
		}
	}
}
