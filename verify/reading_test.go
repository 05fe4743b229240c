package verify

import (
	"maps"
	"math/rand"
	"strings"

	"covenant/api"
	"covenant/code"
)

// known is the state before an instruction, by letters, in a second reading of the document.
type known struct {
	stack string
	slots map[int64]byte
}

// reading examines one function of a module in rounds, each in another order, until no state changes.
type reading struct {
	m      api.Module
	c      api.Code
	states map[int64]known
	rounds int
}

const letters = "?ibs"

func lettersOf(l []api.Type) string {
	var b strings.Builder
	for _, t := range l {
		b.WriteByte(letters[t])
	}
	return b.String()
}

func resultLetter(t api.Type) string { return strings.Trim(letters[t:t+1], "?") }

// fixed are the effects that depend on nothing but the Op.
var fixed = map[api.Op]string{
	api.OpGas: ">", api.OpNum: ">i", api.OpBool: ">b", api.OpText: ">s",
	api.OpGet: "s>s", api.OpHas: "s>b", api.OpLen: "s>i", api.OpPut: "ss>", api.OpDel: "s>",
	api.OpJump: ">", api.OpUnless: "b>", api.OpDrop: "i> b> s>", api.OpStore: "i> b> s>",
}

// effect is what an instruction does to the stack, as rows of what it pops and what it pushes; none if its A is not permitted, or the slot is not known.
func (r *reading) effect(i api.Instr, k known) string {
	has := func(n int) bool { return i.A >= 0 && i.A < int64(n) }
	switch {
	case i.Op == api.OpGas && !has(100001), i.Op == api.OpBool && !has(2), i.Op == api.OpText && !has(len(r.m.Texts)), i.Op == api.OpStore && !has(r.c.Slots):
		return ""
	case i.Op == api.OpLoad && (!has(r.c.Slots) || k.slots[i.A] == 0), i.Op == api.OpCall && !has(len(r.m.Codes)):
		return ""
	case i.Op == api.OpLoad:
		return ">" + string(k.slots[i.A])
	case i.Op == api.OpCall:
		return lettersOf(r.m.Codes[i.A].Params) + ">" + resultLetter(r.m.Codes[i.A].Result)
	case i.Op == api.OpTwo && i.A >= 1 && i.A <= 11:
		return rows(wantMade[signs[i.A-1]])
	case i.Op == api.OpOne && i.A == 2:
		return "i>i"
	case i.Op == api.OpOne && i.A == 12:
		return "b>b"
	case i.Op == api.OpReturn && k.stack == resultLetter(r.c.Result):
		return ">"
	}
	return fixed[i.Op]
}

// rows are those of wantMade, as effects.
func rows(l string) string {
	var out []string
	for _, s := range strings.Fields(l) {
		out = append(out, s[:2]+">"+s[2:])
	}
	return strings.Join(out, " ")
}

// leads are the places behind an instruction.
func leads(at int64, i api.Instr) []int64 {
	switch i.Op {
	case api.OpReturn:
		return nil
	case api.OpJump:
		return []int64{i.A}
	case api.OpUnless:
		return []int64{at + 1, i.A}
	}
	return []int64{at + 1}
}

// merge is false if a state cannot reach a place.
func (r *reading) merge(at int64, k known) (changes, is bool) {
	if at < 0 || at >= int64(len(r.c.Instrs)) {
		return false, false
	}
	old, reached := r.states[at]
	if !reached {
		r.states[at] = known{k.stack, maps.Clone(k.slots)}
		return true, true
	}
	for slot, kind := range old.slots {
		if k.slots[slot] != kind {
			delete(old.slots, slot)
			changes = true
		}
	}
	return changes, old.stack == k.stack
}

// step examines one instruction.
func (r *reading) step(at int64) (changes, is bool) {
	i, k := r.c.Instrs[at], r.states[at]
	stack, is := after(r.effect(i, k), k.stack)
	if !is || len(stack) > 2100 {
		return false, false
	}
	slots := k.slots
	if i.Op == api.OpStore {
		slots = maps.Clone(slots)
		slots[i.A] = k.stack[len(k.stack)-1]
	}
	for _, next := range leads(at, i) {
		changed, is := r.merge(next, known{stack, slots})
		if !is {
			return false, false
		}
		changes = changes || changed
	}
	return changes, true
}

// safe is whether nothing fails, examined in an order by chance.
func (r *reading) safe(source *rand.Rand) bool {
	r.states = map[int64]known{}
	start := known{"", map[int64]byte{}}
	for i, t := range r.c.Params {
		start.slots[int64(i)] = letters[t]
	}
	changes, is := r.merge(0, start)
	for ; is && changes; r.rounds++ {
		changes = false
		for _, at := range source.Perm(len(r.c.Instrs)) {
			if _, reached := r.states[int64(at)]; !reached {
				continue
			}
			changed, is := r.step(int64(at))
			if !is {
				return false
			}
			changes = changes || changed
		}
	}
	return is
}

// wantCheck is what Check should return by the second reading, and how many rounds that took.
func wantCheck(m api.Module, source *rand.Rand) (api.Errno, int) {
	if !code.Right(m) {
		return api.ErrCode, 0
	}
	rounds := 0
	for i, c := range m.Codes {
		for _, other := range m.Codes[:i] {
			if other.Name == c.Name {
				return api.ErrStack, 0
			}
		}
	}
	for _, c := range m.Codes {
		r := &reading{m: m, c: c}
		if !r.safe(source) {
			return api.ErrStack, rounds
		}
		rounds = max(rounds, r.rounds)
	}
	return api.OK, rounds
}
