package verify

import "covenant/api"

const (
	typeBits = 2
	typeMask = 1<<typeBits - 1
	perWord  = 64 / typeBits
	// lowBits has the lower bit of each type in a word.
	lowBits = 0x5555555555555555
)

// slots is what is known of each slot: its type, or TypeNone. A type takes two bits, so that many slots are merged at once: in the greatest functions states may change hundreds of times before each instruction.
type slots [api.MaxSlots / perWord]uint64

func (l *slots) get(slot int64) api.Type {
	return api.Type(l[slot/perWord] >> (slot % perWord * typeBits) & typeMask)
}

func (l *slots) set(slot int64, t api.Type) {
	word, shift := &l[slot/perWord], slot%perWord*typeBits
	*word = *word&^(typeMask<<shift) | uint64(t)<<shift
}

// common returns what both know alike; the types that differ are not known.
func (l slots) common(other slots) slots {
	for i, word := range other {
		differ := l[i] ^ word
		differ = (differ | differ>>1) & lowBits
		l[i] &^= differ | differ<<1
	}
	return l
}
