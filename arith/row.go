package arith

import (
	"bytes"
	"cmp"
	"math"
	"slices"

	"covenant/api"
)

// row is what a sign does between two values of a type; where it does not take them, there is no function.
type row struct {
	ints  func(a, b int64) (api.Value, api.Trap)
	bools func(a, b bool) bool
	texts func(a, b []byte) (api.Value, api.Trap)
}

// rowOf returns the row of a sign. That of a sign which stands between no two values has no functions.
func rowOf(sign string) row {
	switch sign {
	case "+":
		return row{ints: sum, texts: joined}
	case "-":
		return row{ints: difference}
	case "*":
		return row{ints: product}
	case "/":
		return row{ints: divided(func(a, b int64) int64 { return a / b })}
	case "%":
		return row{ints: divided(func(a, b int64) int64 { return a % b })}
	case "<":
		return row{ints: ordered(func(order int) bool { return order < 0 })}
	case "<=":
		return row{ints: ordered(func(order int) bool { return order <= 0 })}
	case ">":
		return row{ints: ordered(func(order int) bool { return order > 0 })}
	case ">=":
		return row{ints: ordered(func(order int) bool { return order >= 0 })}
	case "==":
		return equality(func(alike bool) bool { return alike })
	case "!=":
		return equality(func(alike bool) bool { return !alike })
	case "&&":
		return row{bools: func(a, b bool) bool { return a && b }}
	case "||":
		return row{bools: func(a, b bool) bool { return a || b }}
	}
	return row{}
}

func sum(a, b int64) (api.Value, api.Trap) {
	n := a + b
	// It wrapped round if it has a sign that neither of both has.
	if (a^n)&(b^n) < 0 {
		return api.Value{}, api.TrapRange
	}
	return Num(n), api.TrapNone
}

func difference(a, b int64) (api.Value, api.Trap) {
	n := a - b
	// It wrapped round if the signs differ and it has not that of a.
	if (a^b)&(a^n) < 0 {
		return api.Value{}, api.TrapRange
	}
	return Num(n), api.TrapNone
}

func product(a, b int64) (api.Value, api.Trap) {
	if a == 0 {
		return Num(0), api.TrapNone
	}
	n := a * b
	// The division by a wraps round as well where a is -1, and would find b again.
	if a == -1 && b == math.MinInt64 || n/a != b {
		return api.Value{}, api.TrapRange
	}
	return Num(n), api.TrapNone
}

// divided returns the division of which part is the result.
func divided(part func(a, b int64) int64) func(a, b int64) (api.Value, api.Trap) {
	return func(a, b int64) (api.Value, api.Trap) {
		switch {
		case b == 0:
			return api.Value{}, api.TrapDiv
		case a == math.MinInt64 && b == -1:
			return api.Value{}, api.TrapRange
		}
		return Num(part(a, b)), api.TrapNone
	}
}

// ordered returns the comparison of ints that is true where their order is one that holds.
func ordered(holds func(order int) bool) func(a, b int64) (api.Value, api.Trap) {
	return func(a, b int64) (api.Value, api.Trap) {
		return Bool(holds(cmp.Compare(a, b))), api.TrapNone
	}
}

// equality returns the row of a sign that asks only whether two values are alike.
func equality(holds func(alike bool) bool) row {
	return row{
		ints:  ordered(func(order int) bool { return holds(order == 0) }),
		bools: func(a, b bool) bool { return holds(a == b) },
		texts: func(a, b []byte) (api.Value, api.Trap) {
			return Bool(holds(bytes.Equal(a, b))), api.TrapNone
		},
	}
}

func joined(a, b []byte) (api.Value, api.Trap) {
	if len(a)+len(b) > api.MaxValue {
		return api.Value{}, api.TrapSize
	}
	return api.Value{Type: api.TypeBytes, Text: slices.Concat(a, b)}, api.TrapNone
}
