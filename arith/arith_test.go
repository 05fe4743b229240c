package arith

import (
	"bytes"
	"math"
	"math/big"
	"math/rand"
	"reflect"
	"slices"
	"strings"
	"testing"

	"covenant/api"
)

const (
	least    = math.MinInt64
	greatest = math.MaxInt64
)

// takes says of each type between which two of its values the signs stand.
var takes = map[api.Type][]string{
	api.TypeInt:   strings.Fields("+ - * / % < <= > >= == !="),
	api.TypeBool:  strings.Fields("== != && ||"),
	api.TypeBytes: strings.Fields("+ == !="),
}

var allSigns = strings.Fields("+ - * / % < <= > >= == != && ||")

// noSigns are texts that no operator has.
var noSigns = []string{"", " ", "=", "&", "|", "^", "~", "<<", ">>", "<>", "===", "!==", "++", "--", "+=", " +", "+ ", "+\x00", "-0", "**", "//", "and", "or", "not", "div", "mod", "(", ",", "true", "\xff", "−", "!!", "-!"}

// mustBe fails unless a call returned this value, all its other fields zero, and no trap.
func mustBe(t *testing.T, what []any, v api.Value, trap api.Trap, want api.Value) {
	t.Helper()
	if v.Type != want.Type || v.Num != want.Num || !bytes.Equal(v.Text, want.Text) || trap != api.TrapNone {
		t.Errorf("%v = %v, %v; want %v", what, v, trap, want)
	}
}

// mustTrap fails unless a call returned this trap, and a zero value beside it.
func mustTrap(t *testing.T, what []any, v api.Value, trap, want api.Trap) {
	t.Helper()
	if !reflect.DeepEqual(v, api.Value{}) || trap != want {
		t.Errorf("%v = %v, %v; want a zero value, %v", what, v, trap, want)
	}
}

func intOf(n int64) api.Value { return api.Value{Type: api.TypeInt, Num: n} }

func boolOf(n int64) api.Value { return api.Value{Type: api.TypeBool, Num: n} }

func bytesOf(s string) api.Value { return api.Value{Type: api.TypeBytes, Text: []byte(s)} }

func truth(is bool) api.Value {
	if is {
		return boolOf(1)
	}
	return boolOf(0)
}

func ints(t *testing.T, sign string, a, b, want int64) {
	t.Helper()
	v, trap := Two(sign, intOf(a), intOf(b))
	mustBe(t, []any{a, sign, b}, v, trap, intOf(want))
}

func intsTrap(t *testing.T, sign string, a, b int64, want api.Trap) {
	t.Helper()
	v, trap := Two(sign, intOf(a), intOf(b))
	mustTrap(t, []any{a, sign, b}, v, trap, want)
}

// edges are the ints at which something may change.
func edges() []int64 {
	l := []int64{0, 1, 2, 3, 7, 10, 3037000499, 3037000500, 6074001000, 4294967295, 4294967296, 4294967297, greatest, greatest - 1, greatest / 2, greatest/2 + 1, greatest / 3, greatest / 7}
	for i := range 63 {
		l = append(l, 1<<i)
	}
	for _, n := range slices.Clone(l) {
		l = append(l, -n, ^n)
	}
	slices.Sort(l)
	return slices.Compact(l)
}

// P6.1, A1.
func TestValues(t *testing.T) {
	for _, n := range edges() {
		if v := Num(n); !reflect.DeepEqual(v, api.Value{Type: api.TypeInt, Num: n}) {
			t.Errorf("Num(%d) = %v", n, v)
		}
	}
	if v := Bool(true); !reflect.DeepEqual(v, api.Value{Type: api.TypeBool, Num: 1}) {
		t.Errorf("Bool(true) = %v", v)
	}
	if v := Bool(false); !reflect.DeepEqual(v, api.Value{Type: api.TypeBool}) {
		t.Errorf("Bool(false) = %v", v)
	}
	for _, s := range []string{"", "a", "\x00", "\xff\xfe", strings.Repeat("x", api.MaxValue), strings.Repeat("x", api.MaxValue+1), strings.Repeat("y", 1<<17)} {
		mustBe(t, []any{"Text", len(s)}, Text([]byte(s)), 0, api.Value{Type: api.TypeBytes, Text: []byte(s)})
	}
	mustBe(t, []any{"Text(nil)"}, Text(nil), 0, api.Value{Type: api.TypeBytes})
}

// P6.1, A1.
func TestSame(t *testing.T) {
	all := []api.Value{
		{}, {Type: 1}, {Type: 2}, {Type: 3}, {Type: 4}, {Type: -1},
		{Num: 1}, {Type: 1, Num: 1}, {Type: 2, Num: 1}, {Type: 3, Num: 1}, {Type: 1, Num: -1}, {Type: 2, Num: 2}, {Type: 1, Num: least}, {Type: 1, Num: greatest},
		{Text: []byte("a")}, {Type: 1, Text: []byte("a")}, {Type: 2, Text: []byte("a")}, {Type: 3, Text: []byte("a")},
		{Type: 3, Text: []byte("b")}, {Type: 3, Text: []byte("ab")}, {Type: 3, Text: []byte("ba")}, {Type: 3, Text: []byte{0}}, {Type: 3, Text: []byte{0, 0}}, {Type: 3, Num: 1, Text: []byte("a")},
	}
	for i, a := range all {
		for j, b := range all {
			b.Text = slices.Clone(b.Text)
			if Same(a, b) != (i == j) {
				t.Errorf("Same(%v, %v) = %v", a, b, i != j)
			}
		}
	}
	for n := api.Type(-1); n < 5; n++ {
		without, empty := api.Value{Type: n}, api.Value{Type: n, Text: []byte{}}
		if !Same(without, empty) || !Same(empty, without) || !Same(empty, empty) {
			t.Errorf("type %d: a nil and an empty Text are not the same", n)
		}
	}
	spare := []byte("abc")
	if !Same(Text(spare[:1]), Text([]byte("a"))) || !Same(api.Value{Text: spare[:1]}, api.Value{Text: []byte("ax")[:1]}) {
		t.Error("the spare capacity was compared")
	}
	if !Same(Num(3), Num(3)) || !Same(Bool(true), boolOf(1)) || Same(Bool(true), boolOf(2)) || Same(Num(1), Bool(true)) {
		t.Error("Same of what A1 returns")
	}
}

// P6.1: the document's examples.
func TestExamples(t *testing.T) {
	ints(t, "/", -7, 2, -3)
	ints(t, "%", -7, 2, -1)
	intsTrap(t, "+", greatest, 1, api.TrapRange)
}

// P6.1, A2.
func TestSums(t *testing.T) {
	for _, c := range [][3]int64{
		{2, 3, 5}, {2, -3, -1}, {-2, -3, -5}, {0, 0, 0},
		{greatest, 0, greatest}, {greatest - 1, 1, greatest}, {1 << 62, 1<<62 - 1, greatest}, {greatest, -1, greatest - 1}, {greatest, -greatest, 0},
		{least, 0, least}, {least + 1, -1, least}, {-1 << 62, -1 << 62, least}, {least, 1, least + 1}, {least, greatest, -1},
	} {
		ints(t, "+", c[0], c[1], c[2])
		ints(t, "+", c[1], c[0], c[2])
	}
	for _, c := range [][2]int64{{greatest, 1}, {1 << 62, 1 << 62}, {greatest, greatest}, {greatest - 1, 2}, {least, -1}, {-1 << 62, -1<<62 - 1}, {least, least}, {least + 1, -2}, {least, -greatest}} {
		intsTrap(t, "+", c[0], c[1], api.TrapRange)
		intsTrap(t, "+", c[1], c[0], api.TrapRange)
	}
}

// P6.1, A2.
func TestDifferences(t *testing.T) {
	for _, c := range [][3]int64{
		{2, 3, -1}, {3, 2, 1}, {2, -3, 5}, {-2, 3, -5}, {-2, -3, 1}, {0, 0, 0},
		{greatest, 0, greatest}, {greatest - 1, -1, greatest}, {0, -greatest, greatest}, {-1, least, greatest}, {greatest, greatest, 0}, {-2, least, greatest - 1},
		{least, 0, least}, {least + 1, 1, least}, {-1, greatest, least}, {least, least, 0}, {least, -1, least + 1}, {0, greatest, -greatest},
	} {
		ints(t, "-", c[0], c[1], c[2])
	}
	for _, c := range [][2]int64{{greatest, -1}, {0, least}, {1, -greatest}, {1, least}, {greatest, least}, {least, 1}, {-2, greatest}, {least, greatest}, {least + 1, 2}} {
		intsTrap(t, "-", c[0], c[1], api.TrapRange)
	}
}

// P6.1, A2.
func TestProducts(t *testing.T) {
	for _, c := range [][3]int64{
		{2, 3, 6}, {2, -3, -6}, {-2, -3, 6}, {0, 0, 0},
		{0, greatest, 0}, {0, least, 0}, {0, -1, 0}, {1, greatest, greatest}, {1, least, least}, {-1, greatest, -greatest}, {-1, -greatest, greatest}, {-1, -1, 1}, {1, -1, -1},
		{1 << 31, 1 << 31, 1 << 62}, {-1 << 31, -1 << 31, 1 << 62}, {-1 << 32, 1 << 31, least}, {-1 << 62, 2, least}, {1 << 62, -2, least}, {1 << 32, -1 << 31, least},
		{3037000499, 3037000499, 9223372030926249001}, {-3037000499, -3037000499, 9223372030926249001}, {3037000499, -3037000499, -9223372030926249001},
		{7, greatest / 7, greatest}, {-7, -greatest / 7, greatest}, {1<<62 - 1, 2, greatest - 1}, {1<<62 - 1, -2, -greatest + 1},
	} {
		ints(t, "*", c[0], c[1], c[2])
		ints(t, "*", c[1], c[0], c[2])
	}
	for _, c := range [][2]int64{
		{least, -1}, {1 << 32, 1 << 31}, {-1 << 32, -1 << 31}, {1 << 32, 1 << 32}, {1 << 62, 2}, {-1 << 62, -2}, {-1<<62 - 1, 2}, {1<<62 + 1, -2},
		{3037000500, 3037000500}, {-3037000500, -3037000500}, {3037000500, -3037000500}, {7, greatest/7 + 1}, {7, -greatest/7 - 1}, {-7, greatest/7 + 1},
		{least, 2}, {least, -2}, {least, least}, {least, greatest}, {greatest, greatest}, {greatest, 2}, {greatest, -2}, {-greatest, -greatest},
	} {
		intsTrap(t, "*", c[0], c[1], api.TrapRange)
		intsTrap(t, "*", c[1], c[0], api.TrapRange)
	}
}

// P6.1, A2.
func TestDivisions(t *testing.T) {
	for _, c := range [][4]int64{
		{7, 2, 3, 1}, {7, -2, -3, 1}, {-7, 2, -3, -1}, {-7, -2, 3, -1},
		{6, 3, 2, 0}, {6, -3, -2, 0}, {-6, 3, -2, 0}, {-6, -3, 2, 0},
		{1, 2, 0, 1}, {1, -2, 0, 1}, {-1, 2, 0, -1}, {-1, -2, 0, -1},
		{0, 5, 0, 0}, {0, -5, 0, 0}, {0, least, 0, 0}, {0, -1, 0, 0},
		{greatest, 1, greatest, 0}, {greatest, -1, -greatest, 0}, {least, 1, least, 0}, {-greatest, -1, greatest, 0},
		{least, least, 1, 0}, {greatest, least, 0, greatest}, {-greatest, least, 0, -greatest}, {1, least, 0, 1}, {-1, least, 0, -1},
		{least, greatest, -1, -1}, {greatest, greatest, 1, 0}, {-greatest, greatest, -1, 0},
		{least, 2, -1 << 62, 0}, {least, -2, 1 << 62, 0}, {least, 10, -922337203685477580, -8}, {least, -10, 922337203685477580, -8}, {greatest, -10, -922337203685477580, 7},
	} {
		ints(t, "/", c[0], c[1], c[2])
		ints(t, "%", c[0], c[1], c[3])
	}
	for _, sign := range []string{"/", "%"} {
		for _, n := range edges() {
			intsTrap(t, sign, n, 0, api.TrapDiv)
		}
		intsTrap(t, sign, least, -1, api.TrapRange)
	}
}

// P6.1, A2.
func TestComparisons(t *testing.T) {
	truths := map[string][3]bool{ // of a pair that is less, equal, greater
		"<": {true, false, false}, "<=": {true, true, false}, ">": {false, false, true}, ">=": {false, true, true},
		"==": {false, true, false}, "!=": {true, false, true},
	}
	ascending := []int64{least, least + 1, -1 << 32, -1, 0, 1, 1 << 32, greatest - 1, greatest}
	for sign, row := range truths {
		for i, a := range ascending {
			for j, b := range ascending {
				want := row[1]
				if i < j {
					want = row[0]
				} else if i > j {
					want = row[2]
				}
				v, trap := Two(sign, intOf(a), intOf(b))
				mustBe(t, []any{a, sign, b}, v, trap, truth(want))
			}
		}
	}
}

// exact is what A2 says of two ints, by numbers that have no bounds.
func exact(sign string, a, b int64) (api.Value, api.Trap) {
	x, y, n := big.NewInt(a), big.NewInt(b), new(big.Int)
	switch sign {
	case "+":
		n.Add(x, y)
	case "-":
		n.Sub(x, y)
	case "*":
		n.Mul(x, y)
	case "/", "%":
		if b == 0 {
			return api.Value{}, api.TrapDiv
		}
		quotient, rest := new(big.Int).QuoRem(x, y, new(big.Int))
		if !quotient.IsInt64() {
			return api.Value{}, api.TrapRange
		}
		if n = quotient; sign == "%" {
			n = rest
		}
	default:
		order := x.Cmp(y)
		return truth(sign == "<" && order < 0 || sign == "<=" && order <= 0 || sign == ">" && order > 0 || sign == ">=" && order >= 0 || sign == "==" && order == 0 || sign == "!=" && order != 0), 0
	}
	if !n.IsInt64() {
		return api.Value{}, api.TrapRange
	}
	return intOf(n.Int64()), 0
}

// pairs calls see with the pairs of ints of all edges, and with random ones of all magnitudes.
func pairs(see func(a, b int64)) {
	l := edges()
	for _, a := range l {
		for _, b := range l {
			see(a, b)
		}
	}
	source := rand.New(rand.NewSource(6))
	random := func() int64 { return int64(source.Uint64()) >> source.Intn(64) }
	for range 20000 {
		see(random(), random())
	}
}

// P6.1, A2.
func TestIntsAreExact(t *testing.T) {
	pairs(func(a, b int64) {
		for _, sign := range takes[api.TypeInt] {
			want, wantTrap := exact(sign, a, b)
			v, trap := Two(sign, intOf(a), intOf(b))
			if !reflect.DeepEqual(v, want) || trap != wantTrap {
				t.Fatalf("%d %s %d = %v, %v; want %v, %v", a, sign, b, v, trap, want, wantTrap)
			}
		}
	})
}

// P6.1, A2 and A3: only Num 1 is true.
func TestBools(t *testing.T) {
	nums := []int64{0, 1, 2, -1, 3, 255, 256, 257, 1 << 32, 1<<32 + 1, -2, greatest, least, least + 1}
	for _, a := range nums {
		v, trap := One("!", boolOf(a))
		mustBe(t, []any{"!", a}, v, trap, truth(a != 1))
		for _, b := range nums {
			x, y := a == 1, b == 1
			for sign, want := range map[string]bool{"==": x == y, "!=": x != y, "&&": x && y, "||": x || y} {
				v, trap := Two(sign, boolOf(a), boolOf(b))
				mustBe(t, []any{a, sign, b}, v, trap, truth(want))
			}
		}
	}
}

// P6.1, A2.
func TestJoining(t *testing.T) {
	for _, c := range [][2]int{{0, 0}, {1, 0}, {0, 1}, {1, 1}, {3, 5}, {128, 128}, {255, 1}, {1, 255}, {256, 0}, {0, 256}, {200, 56}} {
		a, b := strings.Repeat("a", c[0]), strings.Repeat("\xff", c[1])
		v, trap := Two("+", bytesOf(a), bytesOf(b))
		mustBe(t, []any{c[0], "+", c[1]}, v, trap, bytesOf(a+b))
	}
	for _, c := range [][2]int{{257, 0}, {0, 257}, {256, 1}, {1, 256}, {128, 129}, {129, 128}, {256, 256}, {1 << 16, 1 << 16}, {1 << 17, 0}, {0, 1 << 17}} {
		v, trap := Two("+", Text(make([]byte, c[0])), Text(make([]byte, c[1])))
		mustTrap(t, []any{c[0], "+", c[1]}, v, trap, api.TrapSize)
	}
	v, trap := Two("+", api.Value{Type: api.TypeBytes}, api.Value{Type: api.TypeBytes, Text: []byte{}})
	mustBe(t, []any{"nil + empty"}, v, trap, bytesOf(""))
}

// P6.1, A2.
func TestBytesAlike(t *testing.T) {
	long := strings.Repeat("x", api.MaxValue)
	all := []string{"", "\x00", "\x00\x00", "a", "b", "ab", "ba", "abc", "A", "\xff", "\xc3\xbf", long, long + "x", long + "y", long + long}
	for i, a := range all {
		for j, b := range all {
			v, trap := Two("==", bytesOf(a), bytesOf(b))
			mustBe(t, []any{i, "==", j}, v, trap, truth(i == j))
			v, trap = Two("!=", bytesOf(a), bytesOf(b))
			mustBe(t, []any{i, "!=", j}, v, trap, truth(i != j))
		}
	}
	v, trap := Two("==", api.Value{Type: api.TypeBytes}, api.Value{Type: api.TypeBytes, Text: []byte{}})
	mustBe(t, []any{"nil == empty"}, v, trap, truth(true))
}

// P6.1, A3.
func TestMinus(t *testing.T) {
	for _, c := range [][2]int64{{0, 0}, {1, -1}, {-1, 1}, {5, -5}, {greatest, -greatest}, {-greatest, greatest}, {least + 1, greatest}} {
		v, trap := One("-", intOf(c[0]))
		mustBe(t, []any{"-", c[0]}, v, trap, intOf(c[1]))
	}
	v, trap := One("-", intOf(least))
	mustTrap(t, []any{"-", int64(least)}, v, trap, api.TrapRange)
	for _, n := range edges() {
		want, wantTrap := exact("-", 0, n)
		if v, trap := One("-", intOf(n)); !reflect.DeepEqual(v, want) || trap != wantTrap {
			t.Errorf("- %d = %v, %v", n, v, trap)
		}
	}
}

// P6.1: what a value has beside the field of its type has no part in the result, and is not in it.
func TestOtherFields(t *testing.T) {
	n := func(n int64, text string) api.Value {
		return api.Value{Type: api.TypeInt, Num: n, Text: []byte(text)}
	}
	b := func(n int64, text string) api.Value {
		return api.Value{Type: api.TypeBool, Num: n, Text: []byte(text)}
	}
	s := func(n int64, text string) api.Value {
		return api.Value{Type: api.TypeBytes, Num: n, Text: []byte(text)}
	}
	for _, c := range []struct {
		a    api.Value
		sign string
		b    api.Value
		want api.Value
	}{
		{n(2, "a"), "+", n(3, "b"), intOf(5)}, {n(2, "a"), "-", n(3, "b"), intOf(-1)}, {n(2, "a"), "*", n(0, "b"), intOf(0)}, {n(0, "a"), "*", n(2, "b"), intOf(0)}, {n(7, "a"), "/", n(3, "b"), intOf(2)}, {n(7, "a"), "%", n(3, "b"), intOf(1)},
		{n(2, "a"), "==", n(2, "b"), truth(true)}, {n(2, "a"), "!=", n(2, "b"), truth(false)}, {n(2, "b"), "<=", n(2, "a"), truth(true)},
		{b(1, "a"), "==", b(1, "b"), truth(true)}, {b(0, "a"), "!=", b(2, "b"), truth(false)}, {b(1, "a"), "&&", b(1, "b"), truth(true)}, {b(0, "a"), "||", b(0, "b"), truth(false)},
		{s(1, "a"), "+", s(2, "b"), bytesOf("ab")}, {s(1, "a"), "==", s(2, "a"), truth(true)}, {s(1, "a"), "!=", s(1, "b"), truth(true)}, {s(1, "a"), "!=", s(2, "a"), truth(false)},
		{s(1, ""), "+", s(2, "b"), bytesOf("b")}, {s(1, "a"), "+", s(2, ""), bytesOf("a")},
	} {
		v, trap := Two(c.sign, c.a, c.b)
		mustBe(t, []any{c.a, c.sign, c.b}, v, trap, c.want)
	}
	v, trap := One("-", n(2, "a"))
	mustBe(t, []any{"-", "2 a"}, v, trap, intOf(-2))
	v, trap = One("!", b(1, "a"))
	mustBe(t, []any{"!", "true a"}, v, trap, truth(false))
}

// samples are values of all types, known and unknown, by which a sign that takes no such pair is not fooled.
func samples() []api.Value {
	var l []api.Value
	for _, n := range []api.Type{-1 << 63, -1, 0, 1, 2, 3, 4, 5, 1<<32 + 1, 1<<63 - 1} {
		for _, num := range []int64{0, 1, 2, -1, least} {
			l = append(l, api.Value{Type: n, Num: num}, api.Value{Type: n, Num: num, Text: []byte{}}, api.Value{Type: n, Num: num, Text: []byte("a")}, api.Value{Type: n, Num: num, Text: make([]byte, api.MaxValue+1)})
		}
	}
	return l
}

// P6.1, A2: all other cases.
func TestTwoRefuses(t *testing.T) {
	signs := slices.Concat(allSigns, []string{"!"}, noSigns)
	for _, sign := range signs {
		for _, a := range samples() {
			for _, b := range samples() {
				if a.Type == b.Type && slices.Contains(takes[a.Type], sign) {
					continue
				}
				if v, trap := Two(sign, a, b); !reflect.DeepEqual(v, api.Value{}) || trap != api.TrapCall {
					t.Fatalf("Two(%q, %v, %v) = %v, %v", sign, a, b, v, trap)
				}
			}
		}
	}
}

// P6.1, A3: all other cases.
func TestOneRefuses(t *testing.T) {
	signs := slices.Concat(allSigns, []string{"!"}, noSigns)
	for _, sign := range signs {
		for _, a := range samples() {
			if sign == "-" && a.Type == api.TypeInt || sign == "!" && a.Type == api.TypeBool {
				continue
			}
			if v, trap := One(sign, a); !reflect.DeepEqual(v, api.Value{}) || trap != api.TrapCall {
				t.Fatalf("One(%q, %v) = %v, %v", sign, a, v, trap)
			}
		}
	}
}

// P6.1: each sign takes the pairs of types that it should.
func TestTwoTakes(t *testing.T) {
	for kind, signs := range takes {
		for _, sign := range signs {
			a := api.Value{Type: kind, Num: 1, Text: []byte("a")}
			if v, trap := Two(sign, a, a); v.Type == api.TypeNone || trap != api.TrapNone {
				t.Errorf("Two(%q, %v, %v) = %v, %v", sign, a, a, v, trap)
			}
		}
	}
}

// P6.2.
func TestSumsAndDifferencesAreInverse(t *testing.T) {
	pairs(func(a, b int64) {
		if sum, trap := Two("+", Num(a), Num(b)); trap == api.TrapNone {
			if back, trap := Two("-", sum, Num(b)); trap != api.TrapNone || !Same(back, Num(a)) {
				t.Fatalf("%d + %d - %d = %v, %v", a, b, b, back, trap)
			}
		}
		if difference, trap := Two("-", Num(a), Num(b)); trap == api.TrapNone {
			if back, trap := Two("+", difference, Num(b)); trap != api.TrapNone || !Same(back, Num(a)) {
				t.Fatalf("%d - %d + %d = %v, %v", a, b, b, back, trap)
			}
		}
	})
}

// P6.2.
func TestQuotientAndRemainder(t *testing.T) {
	pairs(func(a, b int64) {
		quotient, trap := Two("/", Num(a), Num(b))
		rest, also := Two("%", Num(a), Num(b))
		if trap != also {
			t.Fatalf("%d by %d: / has %v, %% has %v", a, b, trap, also)
		}
		if trap != api.TrapNone {
			return
		}
		product, trap := Two("*", quotient, Num(b))
		back, also := Two("+", product, rest)
		if trap != api.TrapNone || also != api.TrapNone || !Same(back, Num(a)) {
			t.Fatalf("%d / %d * %d + %d %% %d = %v, %v, %v", a, b, b, a, b, back, trap, also)
		}
		if rest.Num != 0 && (rest.Num < 0) != (a < 0) {
			t.Fatalf("%d %% %d = %d", a, b, rest.Num)
		}
	})
}

// P6.2.
func TestOneOrder(t *testing.T) {
	pairs(func(a, b int64) {
		var n int64
		for _, sign := range []string{"<", "==", ">"} {
			v, trap := Two(sign, Num(a), Num(b))
			if v.Type != api.TypeBool || trap != api.TrapNone {
				t.Fatalf("%d %s %d = %v, %v", a, sign, b, v, trap)
			}
			n += v.Num
		}
		if n != 1 {
			t.Fatalf("of < == > between %d and %d, %d are true", a, b, n)
		}
	})
}

// spared is a text with capacity behind it, and all of that memory.
func spared(s string) (text, whole []byte) {
	whole = append([]byte(s), "spare capacity"...)
	return whole[:len(s)], whole
}

// P3: nothing that is passed is changed, nor what lies behind it.
func TestArgumentsStay(t *testing.T) {
	for _, pair := range [][2]string{{"", ""}, {"a", ""}, {"", "b"}, {"ab", "c"}, {"ab", "ab"}, {strings.Repeat("x", 200), strings.Repeat("y", 56)}, {strings.Repeat("x", 200), strings.Repeat("y", 57)}} {
		for kind := api.Type(0); kind < 5; kind++ {
			left, leftWhole := spared(pair[0])
			right, rightWhole := spared(pair[1])
			before, after := string(leftWhole), string(rightWhole)
			a, b := api.Value{Type: kind, Num: 1, Text: left}, api.Value{Type: kind, Num: 3, Text: right}
			for _, sign := range append(allSigns[:len(allSigns):len(allSigns)], "!", "") {
				Two(sign, a, b)
				Two(sign, b, a)
				Two(sign, a, a)
				One(sign, a)
			}
			Same(a, b)
			Text(left)
			if string(leftWhole) != before || string(rightWhole) != after {
				t.Errorf("%q and %q of type %d were changed", pair[0], pair[1], kind)
			}
		}
	}
}

// P3: a result stays as it is when what was passed is changed, and the other way round.
func TestResultsAreNewMemory(t *testing.T) {
	for _, pair := range [][2]string{{"ab", ""}, {"", "ab"}, {"a", "b"}} {
		left, leftWhole := spared(pair[0])
		right, rightWhole := spared(pair[1])
		joined, _ := Two("+", api.Value{Type: api.TypeBytes, Text: left}, api.Value{Type: api.TypeBytes, Text: right})
		first, second := Text(left), Text(right)
		beforeLeft, beforeRight := string(leftWhole), string(rightWhole)
		for _, v := range []api.Value{joined, first, second} {
			whole := v.Text[:cap(v.Text)]
			for i := range whole {
				whole[i] ^= 0xFF
			}
			if string(leftWhole) != beforeLeft || string(rightWhole) != beforeRight {
				t.Fatalf("%q: a result shares memory with an argument", pair)
			}
			for i := range whole {
				whole[i] ^= 0xFF
			}
		}
		clear(leftWhole)
		clear(rightWhole)
		if string(joined.Text) != "ab" || string(first.Text) != pair[0] || string(second.Text) != pair[1] {
			t.Errorf("%q: %v, %v, %v: a result changed with an argument", pair, joined, first, second)
		}
	}
}

// P3: a call has the same result whatever was called before it.
func TestCallsDoNotHangOnOthers(t *testing.T) {
	source := rand.New(rand.NewSource(9))
	signs := slices.Concat(allSigns, []string{"!", ""})
	all := append(samples(), bytesOf("ab"), intOf(7), intOf(greatest))
	type call struct {
		sign string
		a, b api.Value
		v    api.Value
		trap api.Trap
	}
	var done []call
	for range 3000 {
		c := call{sign: signs[source.Intn(len(signs))], a: all[source.Intn(len(all))], b: all[source.Intn(len(all))]}
		if source.Intn(2) == 0 {
			c.b.Type = c.a.Type
		}
		c.v, c.trap = Two(c.sign, c.a, c.b)
		done = append(done, c)
	}
	slices.Reverse(done)
	for _, c := range done {
		if v, trap := Two(c.sign, c.a, c.b); !Same(v, c.v) || trap != c.trap {
			t.Fatalf("Two(%q, %v, %v) = %v, %v, and at first %v, %v", c.sign, c.a, c.b, v, trap, c.v, c.trap)
		}
	}
}
