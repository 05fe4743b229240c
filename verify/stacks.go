package verify

import "covenant/api"

// stack is one type on top of another stack, which is given by its number.
type stack struct {
	top    api.Type
	below  int
	height int
}

// stacks are those that came about so far. Equal ones have the same number, so that they need not be compared type by type, however high they are.
type stacks struct {
	list    []stack
	numbers map[stack]int
}

// empty is the number of the stack without types.
const empty = 0

func newStacks() stacks {
	return stacks{list: []stack{{}}, numbers: make(map[stack]int)}
}

// push puts a type on top of the stack with a number. It reports whether there is a type, and room for it.
func (l *stacks) push(number *int, t api.Type) bool {
	above := stack{top: t, below: *number, height: l.list[*number].height + 1}
	if t == api.TypeNone || above.height > api.MaxStack {
		return false
	}
	n, ok := l.numbers[above]
	if !ok {
		n = len(l.list)
		l.numbers[above] = n
		l.list = append(l.list, above)
	}
	*number = n
	return true
}

// pop takes the type on top, or TypeNone if the stack is empty.
func (l *stacks) pop(number *int) api.Type {
	s := l.list[*number]
	*number = s.below
	return s.top
}

// popAll takes types, the last one first. It reports whether it found these.
func (l *stacks) popAll(number *int, types ...api.Type) bool {
	for i := range types {
		if l.pop(number) != types[len(types)-1-i] {
			return false
		}
	}
	return true
}
