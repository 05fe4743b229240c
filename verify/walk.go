package verify

import "covenant/api"

// state is what is known before an instruction.
type state struct {
	stack int // its number
	slots slots
}

// place is what is known of an instruction so far.
type place struct {
	reached bool
	before  state
}

// walk follows the ways through one function of a module.
type walk struct {
	stacks
	module api.Module
	code   api.Code
	places []place
	// remaining has the instructions from which ways are still to be followed, the next one last.
	remaining []int64
}

func newWalk(m api.Module, c api.Code) *walk {
	return &walk{stacks: newStacks(), module: m, code: c, places: make([]place, len(c.Instrs))}
}

// safe reports whether nothing fails on any way from the first instruction on.
func (w *walk) safe() bool {
	if !w.later(0, w.first()) {
		return false
	}
examine:
	for len(w.remaining) > 0 {
		at := w.take()
		for {
			i, s := w.code.Instrs[at], w.places[at].before
			if !w.effect(&s, i) {
				return false
			}
			switch i.Op {
			case api.OpReturn:
				continue examine
			case api.OpJump:
				at = i.A
			case api.OpUnless:
				if !w.later(i.A, s) {
					return false
				}
				at++
			default:
				at++
			}
			changes, is := w.reach(at, s)
			if !is {
				return false
			}
			if !changes {
				continue examine
			}
		}
	}
	return true
}

// first is the state before the first instruction.
func (w *walk) first() state {
	s := state{stack: empty}
	for i, t := range w.code.Params {
		s.slots.set(int64(i), t)
	}
	return s
}

// later lets a state reach an instruction that is to be examined later, and reports whether it can.
func (w *walk) later(at int64, s state) bool {
	changes, is := w.reach(at, s)
	if changes {
		w.remaining = append(w.remaining, at)
	}
	return is
}

// take returns the instruction that remains to be examined since last.
func (w *walk) take() int64 {
	last := len(w.remaining) - 1
	at := w.remaining[last]
	w.remaining = w.remaining[:last]
	return at
}

// reach merges a state with the one that an instruction has already. It reports whether this changes what is known there, and whether there is such an instruction, with an equal stack.
func (w *walk) reach(at int64, s state) (changes, is bool) {
	if !within(at, len(w.places)) {
		return false, false
	}
	p := &w.places[at]
	if !p.reached {
		p.reached, p.before = true, s
		return true, true
	}
	if p.before.stack != s.stack {
		return false, false
	}
	known := p.before.slots.common(s.slots)
	if known == p.before.slots {
		return false, true
	}
	p.before.slots = known
	return true, true
}
