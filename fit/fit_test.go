package fit

import (
	"math"
	"strings"
	"testing"

	"covenant/api"
)

// kinds are all types, and others that there are not.
var kinds = []api.Type{api.TypeNone, api.TypeInt, api.TypeBool, api.TypeBytes, 4, -1, math.MaxInt, math.MinInt}

// mustFit fails unless a value fits the types that are wanted, and no other.
func mustFit(t *testing.T, v api.Value, want ...api.Type) {
	t.Helper()
	for _, kind := range kinds {
		is := false
		for _, k := range want {
			is = is || k == kind
		}
		if Value(v, kind) != is {
			t.Errorf("type %d, number %d, %d bytes fit type %d: %v", v.Type, v.Num, len(v.Text), kind, !is)
		}
	}
}

// The definition of layer 10: an int or a bool has no Text, and any Num.
func TestNumbersAndBools(t *testing.T) {
	for _, kind := range []api.Type{api.TypeInt, api.TypeBool} {
		for _, n := range []int64{0, 1, -1, 2, math.MaxInt64, math.MinInt64} {
			mustFit(t, api.Value{Type: kind, Num: n}, kind)
			mustFit(t, api.Value{Type: kind, Num: n, Text: []byte{}}, kind)
			mustFit(t, api.Value{Type: kind, Num: n, Text: []byte("a")})
			mustFit(t, api.Value{Type: kind, Num: n, Text: []byte{0}})
		}
	}
}

// The definition of layer 10: bytes have the Num 0, and at most 256 bytes.
func TestBytes(t *testing.T) {
	for _, n := range []int{0, 1, 16, 255, 256} {
		text := []byte(strings.Repeat("x", n))
		mustFit(t, api.Value{Type: api.TypeBytes, Text: text}, api.TypeBytes)
		for _, num := range []int64{1, -1, math.MaxInt64, math.MinInt64} {
			mustFit(t, api.Value{Type: api.TypeBytes, Num: num, Text: text})
		}
	}
	mustFit(t, api.Value{Type: api.TypeBytes}, api.TypeBytes)
	for _, n := range []int{257, 258, 512, 65536} {
		mustFit(t, api.Value{Type: api.TypeBytes, Text: []byte(strings.Repeat("x", n))})
	}
}

// What is of no type is an argument for none.
func TestOtherTypes(t *testing.T) {
	for _, kind := range []api.Type{api.TypeNone, 4, -1, math.MaxInt, math.MinInt} {
		v := api.Value{Type: kind}
		for _, other := range []api.Type{api.TypeInt, api.TypeBool, api.TypeBytes} {
			if Value(v, other) {
				t.Errorf("a value of type %d fits type %d", kind, other)
			}
		}
	}
}
