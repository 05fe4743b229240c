// Package fit tells which values can be arguments, for all layers that take some.
package fit

import "covenant/api"

// Value reports whether v can be the argument for a parameter of a type, as layer 10 defines it: it is of this type, and has nothing that the type does not use.
func Value(v api.Value, t api.Type) bool {
	if v.Type != t {
		return false
	}
	if t == api.TypeBytes {
		return v.Num == 0 && len(v.Text) <= api.MaxValue
	}
	return len(v.Text) == 0
}
