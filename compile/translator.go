package compile

import "covenant/api"

// translator translates one function.
type translator struct {
	*shared
	instrs []api.Instr
	// slots has the slot of each name that was declared last. As no name in scope is declared again, that is the one in scope, and nothing need be forgotten where a block ends.
	slots map[string]int64
	used  int // how many slots there are so far
}

// slot returns the next slot.
func (t *translator) slot() int64 {
	t.used++
	return int64(t.used - 1)
}

// declare gives a name the next slot.
func (t *translator) declare(name string) int64 {
	t.slots[name] = t.slot()
	return t.slots[name]
}

func (t *translator) put(op api.Op, a int64) {
	t.instrs = append(t.instrs, api.Instr{Op: op, A: a})
}

// here returns the place of the next instruction.
func (t *translator) here() int64 { return int64(len(t.instrs)) }

// label is a place that is not known yet. It stores what tells the place to the jumps that lead there.
type label struct {
	patches []func(place int64)
}

// jump adds an instruction that leads to a label.
func (t *translator) jump(op api.Op, to *label) {
	at := t.here()
	t.put(op, 0)
	to.patches = append(to.patches, func(place int64) { t.instrs[at].A = place })
}

// mark makes the next instruction the place of a label.
func (t *translator) mark(l *label) {
	for _, patch := range l.patches {
		patch(t.here())
	}
}

// choose goes on with yes if the bool on the stack is true, otherwise with no. Both report whether they end, so that nothing behind them is reached; choose reports whether both do.
func (t *translator) choose(yes, no func() bool) bool {
	var otherwise, behind label
	t.jump(api.OpUnless, &otherwise)
	yesEnds := yes()
	if !yesEnds {
		t.jump(api.OpJump, &behind)
	}
	t.mark(&otherwise)
	noEnds := no()
	t.mark(&behind)
	return yesEnds && noEnds
}
