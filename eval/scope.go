package eval

import "covenant/api"

// scope has the values of the names that a block has declared, and is linked to that of the block around it. Every name that is asked for is in one of them, as the program is valid.
type scope struct {
	values map[string]api.Value
	around *scope
}

func newScope(around *scope) *scope {
	return &scope{values: make(map[string]api.Value), around: around}
}

// inner returns a scope for a block that begins in this one.
func (names *scope) inner() *scope {
	// A scope without names can be passed over, as it gets none while a block within it runs. So there are never more links than a function has names, however deep its blocks are.
	if len(names.values) == 0 {
		return newScope(names.around)
	}
	return newScope(names)
}

func (names *scope) declare(name string, v api.Value) { names.values[name] = v }

// having returns the values among which is that of a name.
func (names *scope) having(name string) map[string]api.Value {
	for ; names != nil; names = names.around {
		if _, ok := names.values[name]; ok {
			return names.values
		}
	}
	return nil
}

func (names *scope) value(name string) api.Value { return names.having(name)[name] }

func (names *scope) set(name string, v api.Value) { names.having(name)[name] = v }
