package code

import (
	"bytes"
	"math"
	"slices"
	"strings"
	"testing"

	"covenant/api"
)

// P11.1, B2: bytes that are cut at each place.
func TestBytesThatEndEarly(t *testing.T) {
	for _, m := range []api.Module{{}, plain(), one(api.Code{}), one(typed(16)), one(long(3)), {Texts: make([][]byte, 3)}} {
		b := written(m)
		for n := range b {
			mustNotRead(t, "cut bytes", b[:n], api.ErrEnd)
			mustNotRead(t, "cut bytes with capacity", slices.Clip(b[:n]), api.ErrEnd)
		}
	}
	mustNotRead(t, "nil", nil, api.ErrEnd)
	mustNotRead(t, "no bytes", []byte{}, api.ErrEnd)
}

// P11.1, B2: bytes that are left over.
func TestBytesLeftOver(t *testing.T) {
	for _, m := range []api.Module{{}, plain(), one(api.Code{}), {Texts: make([][]byte, 3)}} {
		b := written(m)
		for _, more := range [][]byte{{0}, {1}, {0xFF}, make([]byte, 4), make([]byte, 8), make([]byte, 1000), b} {
			mustNotRead(t, "bytes left over", join(b, more), api.ErrCode)
		}
	}
}

// wrongNumbers are numbers of elements that are not permitted, if most are.
func wrongNumbers(most int64) []int64 {
	return []int64{
		-1, -2, -most, math.MinInt64, math.MinInt64 + 1, most + 1, most + 2, 2 * most, math.MaxInt64, math.MaxInt64 - 1,
		1 << 31, 1<<31 + 1, 1 << 32, 1<<32 + 1, 1 << 62, -1 << 31, -1 << 32, -1<<32 + 1,
	}
}

// counted is bytes ahead of a number of elements, and how many elements are permitted there.
type counted struct {
	name   string
	before []byte
	most   int64
	one    []byte // the bytes of an element
	behind []byte // what follows the elements in a module
}

func counts() []counted {
	head := join(num(1), text("f"))
	ends := join(num(0), num(16), num(0), row())
	two := join(num(2), text("f"), num(0), num(0), num(0), num(0), text("g"))
	return []counted{
		{"Codes", nil, 64, join(text(""), num(0), num(0), num(0), num(0)), row()},
		{"Params", head, 16, num(2), ends},
		{"Params of a last Code", two, 16, num(2), ends},
		{"Instrs", join(head, num(0), num(0), num(0)), 16384, join(num(1), num(7)), row()},
		{"Instrs of a last Code", join(two, num(0), num(0), num(0)), 16384, join(num(1), num(7)), row()},
	}
}

// P11.1, B2: numbers of elements are checked immediately after they are read, ahead of what follows.
func TestNumbersOfElements(t *testing.T) {
	for _, c := range counts() {
		all := bytes.Repeat(c.one, int(c.most))
		for _, n := range []int64{0, 1, 2, c.most - 1, c.most} {
			b := join(c.before, num(n), all[:int(n)*len(c.one)], c.behind)
			if m, e := Get(b); e != api.OK || !bytes.Equal(written(m), b) {
				t.Errorf("%d %s: %v", n, c.name, e)
			}
			if n > 0 {
				mustNotRead(t, c.name+", the last is lacking", join(c.before, num(n), all[:int(n-1)*len(c.one)]), api.ErrEnd)
				mustNotRead(t, c.name+", of which none follow", join(c.before, num(n)), api.ErrEnd)
			}
		}
		for _, n := range wrongNumbers(c.most) {
			for _, follow := range [][]byte{
				nil, {0}, {0xFF, 0xFF, 0xFF}, bytes.Repeat([]byte{0xFF}, 100), make([]byte, 100), c.behind,
				join(all, c.behind), join(all, c.one, c.behind), join(all, c.one, c.one, c.behind), count(65537), num(-1),
			} {
				mustNotRead(t, c.name, join(c.before, num(n), follow), api.ErrCode)
			}
		}
		for n := range 8 {
			mustNotRead(t, c.name+", whose number ends early", join(c.before, num(-1)[:n]), api.ErrEnd)
		}
	}
}

// P11.1, B2: wire's errors of a Name and of the Texts.
func TestErrorsOfByteStrings(t *testing.T) {
	behind := join(num(0), num(0), num(0), num(0), row())
	huge := strings.Repeat("x", 65537)
	for _, c := range []struct {
		name string
		b    []byte
		e    api.Errno
	}{
		{"a Name longer than wire permits", join(num(1), count(65537), []byte(huge), behind), api.ErrTooMany},
		{"a Name longer than wire permits, of which nothing follows", join(num(1), count(65537)), api.ErrTooMany},
		{"a Name with the greatest length", join(num(1), count(-1), behind), api.ErrTooMany},
		{"a Name of which bytes are lacking", join(num(1), count(65536), behind), api.ErrEnd},
		{"a Name of which all is lacking", join(num(1), count(1)), api.ErrEnd},
		{"a Name that is too long for a module", join(num(1), text(huge[:65536]), behind), api.ErrCode},
		{"too many Texts", join(num(0), count(1025)), api.ErrTooMany},
		{"too many Texts, all there", join(num(0), count(1025), make([]byte, 4*1025)), api.ErrTooMany},
		{"the greatest number of Texts", join(num(0), count(-1)), api.ErrTooMany},
		{"a Text longer than wire permits", join(num(0), count(1), text(huge)), api.ErrTooMany},
		{"a second Text longer than wire permits", join(num(0), count(2), text(""), text(huge)), api.ErrTooMany},
		{"a Text that is lacking", join(num(0), count(2), text("")), api.ErrEnd},
		{"a Text of which a byte is lacking", join(num(0), count(1), count(2), []byte("a")), api.ErrEnd},
		{"a Text that is too long for a module", join(num(0), row(huge[:65])), api.ErrCode},
	} {
		mustNotRead(t, c.name, c.b, c.e)
	}
}

// P11.1, B2, and P2: the first part that cannot be read comes ahead of what makes a module that is not valid, wherever that stands.
func TestFirstError(t *testing.T) {
	name, other := text("abcdefghijklmnopq"), join(num(9), num(257), num(1), num(0), num(0))
	for _, c := range []struct {
		name string
		b    []byte
		e    api.Errno
	}{
		{"a wrong Name, and an early end", join(num(1), name), api.ErrEnd},
		{"a wrong Name, and too many Params", join(num(1), name, num(17)), api.ErrCode},
		{"a wrong Name, and a next one that is too long", join(num(2), name, num(0), num(0), num(0), num(0), count(65537)), api.ErrTooMany},
		{"a wrong Name, and too many Texts", join(num(1), name, num(0), num(0), num(0), num(0), count(1025)), api.ErrTooMany},
		{"a wrong Name, and a Text that ends early", join(num(1), name, num(0), num(0), num(0), num(0), count(1), count(2), []byte("a")), api.ErrEnd},
		{"a wrong Param, and an early end", join(num(1), text(""), num(2), num(9)), api.ErrEnd},
		{"a wrong Result, Slots and Op, and an early end", join(num(1), text(""), num(0), other), api.ErrEnd},
		{"a wrong Result, Slots and Op, and too many Texts", join(num(1), text(""), num(0), other, count(1025)), api.ErrTooMany},
		{"a wrong Result, Slots and Op, and bytes left over", join(num(1), text(""), num(0), other, row(), []byte{0}), api.ErrCode},
		{"a wrong Op, and its A ends early", join(num(1), text(""), num(0), num(0), num(0), num(1), num(0), make([]byte, 7)), api.ErrEnd},
		{"Slots that are fewer than Params, and an early end", join(num(1), text(""), num(1), num(1), num(0), num(0)), api.ErrEnd},
		{"a Text that is too long, and one that ends early", join(num(0), count(2), text(strings.Repeat("x", 65))), api.ErrEnd},
		{"a Text that is too long, and one longer than wire permits", join(num(0), count(2), text(strings.Repeat("x", 65)), count(65537)), api.ErrTooMany},
		{"too long a Name ahead of an early end", join(num(1), count(65537), []byte("a")), api.ErrTooMany},
		{"too many Codes ahead of too long a Name", join(num(65), count(65537)), api.ErrCode},
		{"too long a Name ahead of too many Params", join(num(1), count(65537), num(17)), api.ErrTooMany},
		{"too many Params ahead of too many Instrs", join(num(1), text(""), num(17), num(0), num(0), num(16385)), api.ErrCode},
		{"too many Instrs ahead of too many Texts", join(num(1), text(""), num(0), num(0), num(0), num(16385), count(1025)), api.ErrCode},
	} {
		mustNotRead(t, c.name, c.b, c.e)
	}
}

// P11.1, B2: integers of which the lowest 32 bits would be right.
func TestGreatIntegers(t *testing.T) {
	code := func(param, result, slots, op int64) []byte {
		return join(num(1), text("f"), num(1), num(param), num(result), num(slots), num(1), num(op), num(0), row())
	}
	if m, e := Get(code(1, 0, 1, 1)); e != api.OK || !same(m, one(api.Code{Name: "f", Params: []api.Type{1}, Slots: 1, Instrs: []api.Instr{{Op: 1}}})) {
		t.Errorf("%s, %v", show(m), e)
	}
	for _, great := range []int64{1 << 8, 1 << 16, 1 << 31, 1 << 32, 1 << 33, 1 << 62, -1 << 31, -1 << 32, math.MinInt64} {
		mustNotRead(t, "a great Param", code(great+1, 0, 1, 1), api.ErrCode)
		mustNotRead(t, "a great Result", code(1, great, 1, 1), api.ErrCode)
		if great != 1<<8 {
			mustNotRead(t, "great Slots", code(1, 0, great+1, 1), api.ErrCode)
		}
		mustNotRead(t, "a great Op", code(1, 0, 1, great+1), api.ErrCode)
	}
	for _, a := range []int64{1 << 31, 1 << 32, 1<<32 + 1, -1 << 31, -1<<31 - 1, -1 << 32, math.MaxInt64, math.MinInt64} {
		m, e := Get(join(num(1), text("f"), num(0), num(0), num(0), num(1), num(2), num(a), row()))
		if e != api.OK || !same(m, one(api.Code{Name: "f", Instrs: []api.Instr{{Op: api.OpNum, A: a}}})) {
			t.Errorf("A of %d: %s, %v", a, show(m), e)
		}
	}
}
