package vm

import (
	"covenant/api"
	"covenant/journal"
	"covenant/meter"
)

// maxIdle is how many instructions may be executed in a row without an OpGas that uses some: a run would not end otherwise.
const maxIdle = 65535

// machine is a run of a module. As the module is safe, each instruction finds what it needs, and none looks whether it does.
type machine struct {
	module api.Module
	store  *journal.Journal
	gas    api.Gas
	idle   int      // instructions since an OpGas that used some
	frames []*frame // the function that is running is the last one
	result api.Value
}

// frame is a function that is running, or waits for one that it called.
type frame struct {
	code  api.Code
	place int64 // of the next instruction
	slots []api.Value
	stack []api.Value
}

func (f *frame) push(v api.Value) { f.stack = append(f.stack, v) }

func (f *frame) pop() api.Value { return f.take(1)[0] }

// take pops so many values. They stand in the order in which they were pushed, and only until something is pushed.
func (f *frame) take(n int) []api.Value {
	rest := len(f.stack) - n
	taken := f.stack[rest:]
	f.stack = f.stack[:rest]
	return taken
}

// next returns the next instruction, behind which the frame goes on.
func (f *frame) next() api.Instr {
	i := f.code.Instrs[f.place]
	f.place++
	return i
}

// run executes instructions until no function is running any more, or something traps.
func (m *machine) run() api.Trap {
	for len(m.frames) > 0 {
		f := m.frames[len(m.frames)-1]
		i := f.next()
		if m.isIdle(i) {
			m.gas.Used = m.gas.Limit
			return api.TrapGas
		}
		if trap := m.execute(f, i); trap != api.TrapNone {
			return trap
		}
	}
	return api.TrapNone
}

// isIdle counts an instruction that is about to be executed, and reports whether it is one too many in a row.
func (m *machine) isIdle(i api.Instr) bool {
	m.idle++
	if i.Op == api.OpGas && i.A > 0 {
		m.idle = 0
	}
	return m.idle > maxIdle
}

// enter begins a function, unless too many are running already.
func (m *machine) enter(c api.Code, args []api.Value) api.Trap {
	if len(m.frames) == api.MaxCalls {
		return api.TrapDepth
	}
	f := &frame{code: c, slots: make([]api.Value, c.Slots)}
	copy(f.slots, args)
	m.frames = append(m.frames, f)
	return api.TrapNone
}

// leave ends the function that is running, and passes on what it returns.
func (m *machine) leave(f *frame) {
	m.frames = m.frames[:len(m.frames)-1]
	switch {
	case f.code.Result == api.TypeNone:
	case len(m.frames) == 0:
		m.result = f.pop()
	default:
		m.frames[len(m.frames)-1].push(f.pop())
	}
}

// use uses n of the gas.
func (m *machine) use(n int64) api.Trap {
	var enough bool
	m.gas, enough = meter.Use(m.gas, n)
	if !enough {
		return api.TrapGas
	}
	return api.TrapNone
}
