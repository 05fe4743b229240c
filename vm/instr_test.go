package vm

import (
	"math"
	"strconv"
	"strings"
	"testing"

	"covenant/api"
)

// P14.1: what pushes a value.
func TestPushes(t *testing.T) {
	for _, n := range []int64{0, 1, -1, 2, 255, 256, 1 << 32, math.MaxInt64, math.MinInt64} {
		mustCome(t, ":i", "num "+strconv.FormatInt(n, 10)+", return", ends(num(n), 0))
	}
	mustCome(t, ":b", "bool 0, return", ends(truth(false), 0))
	mustCome(t, ":b", "bool 1, return", ends(truth(true), 0))
	for i, s := range texts() {
		mustCome(t, ":s", "text "+strconv.Itoa(i)+", return", ends(text(string(s)), 0))
	}
}

// P14.1: a slot has what was stored there last, the parameters have the first ones.
func TestSlots(t *testing.T) {
	args := []api.Value{num(5), truth(true), text("abc")}
	for i, v := range args {
		mustCome(t, "ibs:"+"ibs"[i:i+1], "load "+strconv.Itoa(i)+", return", ends(v, 0), args...)
	}
	mustCome(t, "ibs:i", "num 6, store 0, load 0, return", ends(num(6), 0), args...)
	mustCome(t, "ibs:i", "num 6, store 1, load 1, return", ends(num(6), 0), args...)
	mustCome(t, "ibs:s", "load 2, store 0, load 0, return", ends(text("abc"), 0), args...)
	mustCome(t, "ibs:i", "load 0, store 4, num 6, store 0, num 7, store 3, load 4, return", ends(num(5), 0), args...)
	mustCome(t, "ibs:i", "num 6, store 3, num 7, store 3, load 3, return", ends(num(7), 0), args...)
	mustCome(t, "ibs:i", "num 6, store 3, num 7, store 4, load 3, load 4, num 10, two *, two +, return", ends(num(76), 0), args...)
	mustCome(t, "ibs:i", "load 0, num 6, store 0, return", ends(num(5), 0), args...)
}

// P14.1: all slots stand side by side.
func TestAllSlots(t *testing.T) {
	var b strings.Builder
	for i := range api.MaxSlots {
		b.WriteString("num " + strconv.Itoa(i*i) + ", store " + strconv.Itoa(i) + ", ")
	}
	for i := range api.MaxSlots {
		m := module(fn("f :i", api.MaxSlots, b.String()+"load "+strconv.Itoa(i)+", return"))
		run{m: m}.mustDoWith(t, 0, ends(num(int64(i*i)), 0), "")
	}
}

// P14.1: a slot that is not yet stored can't be loaded, so that the module is not safe.
func TestSlotNotStored(t *testing.T) {
	for _, instrs := range []string{
		"load 1, return",
		"load 0, store 2, load 1, return",
		"load 1, store 1, load 1, return",
		"bool 0, unless 4, num 7, store 1, load 1, return",
		"jump 2, store 1, num 7, jump 4, load 1, return",
	} {
		m := module(fn("f i:i", 2, instrs))
		mustRefuse(t, m, "f", num(1))
	}
	mustCome(t, "i:i", "bool 0, unless 5, num 7, store 1, jump 7, num 8, store 1, load 1, return", ends(num(8), 0), num(1))
}

// two is an instruction sequence that applies a sign to the parameters.
func two(sign string) string { return "load 0, load 1, two " + sign + ", return" }

// P14.1: the signs of two ints, the second of which was pushed last.
func TestTwoInts(t *testing.T) {
	const most, least = math.MaxInt64, math.MinInt64
	div, over := traps(api.TrapDiv, 0), traps(api.TrapRange, 0)
	for sign, rows := range map[string][]struct {
		a, b int64
		want api.Outcome
	}{
		"+": {{7, 2, ends(num(9), 0)}, {-7, 2, ends(num(-5), 0)}, {most, 0, ends(num(most), 0)}, {most, 1, over}, {least, -1, over}, {most, least, ends(num(-1), 0)}},
		"-": {{7, 2, ends(num(5), 0)}, {2, 7, ends(num(-5), 0)}, {least, 1, over}, {0, least, over}, {most, -1, over}, {-1, least, ends(num(most), 0)}},
		"*": {{7, 2, ends(num(14), 0)}, {-7, 2, ends(num(-14), 0)}, {most, 2, over}, {least, -1, over}, {-1, least, over}, {1 << 32, 1 << 31, over}, {1 << 32, -1 << 31, ends(num(least), 0)}},
		"/": {{7, 2, ends(num(3), 0)}, {-7, 2, ends(num(-3), 0)}, {2, 7, ends(num(0), 0)}, {1, 0, div}, {0, 0, div}, {least, 0, div}, {least, -1, over}, {0, 5, ends(num(0), 0)}},
		"%": {{7, 2, ends(num(1), 0)}, {-7, 2, ends(num(-1), 0)}, {2, 7, ends(num(2), 0)}, {1, 0, div}, {0, 0, div}, {least, 0, div}, {least, -1, over}, {7, -2, ends(num(1), 0)}},
	} {
		for _, r := range rows {
			mustCome(t, "ii:i", two(sign), r.want, num(r.a), num(r.b))
		}
	}
	for sign, is := range map[string][3]bool{
		"<": {true, false, false}, "<=": {true, true, false}, ">": {false, false, true},
		">=": {false, true, true}, "==": {false, true, false}, "!=": {true, false, true},
	} {
		mustCome(t, "ii:b", two(sign), ends(truth(is[0]), 0), num(least), num(most))
		mustCome(t, "ii:b", two(sign), ends(truth(is[1]), 0), num(-3), num(-3))
		mustCome(t, "ii:b", two(sign), ends(truth(is[2]), 0), num(4), num(-5))
	}
}

// P14.1: the signs of two bools and of two bytes, other than `+`.
func TestTwoOthers(t *testing.T) {
	for _, a := range []bool{false, true} {
		for _, b := range []bool{false, true} {
			mustCome(t, "bb:b", two("=="), ends(truth(a == b), 0), truth(a), truth(b))
			mustCome(t, "bb:b", two("!="), ends(truth(a != b), 0), truth(a), truth(b))
		}
	}
	mustCome(t, "bb:b", two("=="), ends(truth(true), 0), api.Value{Type: api.TypeBool, Num: 2}, truth(false))
	for _, a := range []string{"", "a", "ab", "b", long(256)} {
		for _, b := range []string{"", "a", "ab", "b", long(256), long(255)} {
			mustCome(t, "ss:b", two("=="), ends(truth(a == b), 0), text(a), text(b))
			mustCome(t, "ss:b", two("!="), ends(truth(a != b), 0), text(a), text(b))
		}
	}
}

// P14.1: a sum of bytes uses one for each 16 of both, ahead of whether it is too long.
func TestSumsOfBytes(t *testing.T) {
	mustCome(t, "ss:s", two("+"), ends(text("abcd"), 0), text("ab"), text("cd"))
	for _, l := range [][3]int{{0, 0, 0}, {0, 15, 0}, {15, 0, 0}, {15, 1, 1}, {8, 8, 1}, {0, 16, 1}, {31, 0, 1}, {16, 15, 1}, {16, 16, 2}, {64, 64, 8}, {128, 127, 15}, {128, 128, 16}, {256, 0, 16}, {0, 256, 16}} {
		mustCome(t, "ss:s", two("+"), ends(text(long(l[0])+strings.Repeat("y", l[1])), int64(l[2])), text(long(l[0])), text(strings.Repeat("y", l[1])))
	}
	for _, l := range [][3]int{{256, 1, 16}, {1, 256, 16}, {128, 129, 16}, {256, 15, 16}, {256, 16, 17}, {256, 256, 32}} {
		mustCome(t, "ss:s", two("+"), traps(api.TrapSize, int64(l[2])), text(long(l[0])), text(long(l[1])))
	}
	mustCome(t, "s:s", "x3 load 0, x2 two +, return", ends(text("ababab"), 0), text("ab"))
	mustCome(t, "s:s", "gas 2, x5 load 0, x4 two +, return", ends(text(long(50)), 2+1+1+2+3), text(long(10)))
}

// P14.1: the signs of one value.
func TestOne(t *testing.T) {
	for _, n := range []int64{0, 1, -1, 77, math.MaxInt64, -math.MaxInt64} {
		mustCome(t, "i:i", "load 0, one -, return", ends(num(-n), 0), num(n))
	}
	mustCome(t, "i:i", "load 0, one -, return", traps(api.TrapRange, 0), num(math.MinInt64))
	mustCome(t, "b:b", "load 0, one !, return", ends(truth(false), 0), truth(true))
	mustCome(t, "b:b", "load 0, one !, return", ends(truth(true), 0), truth(false))
	mustCome(t, "b:b", "load 0, one !, one !, return", ends(truth(true), 0), truth(true))
}

// P14.1: what reads the store, and the length of bytes.
func TestReading(t *testing.T) {
	const get, has = "load 0, get, return", "load 0, has, return"
	for key, value := range map[string]string{"a": "1", "k": "0123456789abcdef", "b": "", "": "", "A": "", "a\x00": "", "kk": "", long(64): "", long(65): "", long(256): ""} {
		mustCome(t, "s:s", get, ends(text(value), api.CostGet), text(key))
		mustCome(t, "s:b", has, ends(truth(value != ""), api.CostGet), text(key))
	}
	empties := run{m: module(fn("f s:s", 0, get)), store: "= a= b=" + long(256), args: []api.Value{text("")}}
	empties.mustDo(t, ends(text(""), 2), empties.store)
	empties.args[0] = text("a")
	empties.mustDo(t, ends(text(""), 2), empties.store)
	empties.args[0] = text("b")
	empties.mustDo(t, ends(text(long(256)), 2), empties.store)
	empties.m = module(fn("f s:b", 0, has))
	for key, is := range map[string]bool{"": true, "a": true, "b": true, "c": false} {
		empties.args[0] = text(key)
		empties.mustDo(t, ends(truth(is), 2), empties.store)
	}
	for _, n := range []int{0, 1, 15, 16, 255, 256} {
		mustCome(t, "s:i", "load 0, len, return", ends(num(int64(n)), 0), text(long(n)))
	}
	mustCome(t, ":s", "text 2, get, get, return", ends(text(""), 4))
	mustCome(t, ":i", "text 1, get, len, text 2, get, len, two -, return", ends(num(1-16), 4))
}

// writes fails unless instructions after which f returns make another store of what is stored.
func writes(t *testing.T, instrs string, used int64, after string) {
	t.Helper()
	t.Log(instrs)
	run{m: module(fn("f", 2, instrs+", return")), store: stored}.mustDo(t, ends(api.Value{}, used), after)
}

// P14.1: what is put is the value, pushed last, at the key below it; and what is deleted.
func TestWriting(t *testing.T) {
	const k = " k=0123456789abcdef"
	writes(t, "text 1, text 2, put", 4, "a=k"+k)
	writes(t, "text 2, text 1, put", 4, "a=1 k=a")
	writes(t, "text 0, text 2, put", 4, "=k a=1"+k)
	writes(t, "text 2, text 0, put", 4, "a=1 k=")
	writes(t, "text 0, text 0, put", 4, "= a=1"+k)
	writes(t, "text 1, text 3, put", 5, "a="+long(15)+k)
	writes(t, "text 0, text 3, put", 4, "="+long(15)+" a=1"+k)
	writes(t, "text 3, text 4, put", 5, "a=1"+k+" "+long(15)+"="+long(16))
	writes(t, "text 4, text 4, put", 6, "a=1"+k+" "+long(16)+"="+long(16))
	writes(t, "text 5, text 5, put", 12, "a=1"+k+" "+long(64)+"="+long(64))
	writes(t, "text 1, text 2, put, text 1, text 1, put", 8, "a=a"+k)
	writes(t, "text 1, text 2, put, text 2, text 1, get, put", 4+2+4, "a=k k=k")
	writes(t, "text 1, del", 4, k[1:])
	writes(t, "text 2, del", 4, "a=1")
	writes(t, "text 0, del", 4, stored)
	writes(t, "text 4, del", 4, stored)
	writes(t, "text 5, text 1, two +, del", 4+4, stored)
	writes(t, "text 1, del, text 1, del, text 2, del", 12, "")
	writes(t, "text 1, del, text 1, text 2, put", 8, "a=k"+k)
	writes(t, "text 1, text 2, put, text 1, del", 8, k[1:])
	readBack := "text 0, text 3, put, text 0, has, text 0, get, text 3, two ==, two ==, return"
	run{m: module(fn("f :b", 0, readBack)), store: "a=1"}.mustDo(t, ends(truth(true), 4+2+2), "="+long(15)+" a=1")
}

// P14.1: the gas of a put is used ahead of whether it is too great, and that is told ahead of whether there is room.
func TestPutsThatTrap(t *testing.T) {
	m := module(fn("f ss", 0, "load 0, load 1, put, return"))
	put := func(store string, key, value int, trap api.Trap, after string) {
		t.Helper()
		x := run{m: m, store: store, args: []api.Value{text(long(key)), text(long(value))}}
		x.mustDo(t, api.Outcome{Trap: trap, Used: 4 + int64(key+value)/16}, after)
	}
	put("a=1", 64, 256, api.TrapNone, "a=1 "+long(64)+"="+long(256))
	put("a=1", 65, 0, api.TrapSize, "")
	put("a=1", 65, 256, api.TrapSize, "")
	put("a=1", 256, 256, api.TrapSize, "")
	put(full(), 65, 0, api.TrapSize, "")
	put(full(), 0, 0, api.TrapQuota, "")
	put(full(), 64, 256, api.TrapQuota, "")
	put("b="+full()[3:], 1, 0, api.TrapQuota, "")
	put("a=1", 0, 0, api.TrapNone, "= a=1")
}

// P14.1, P14.3: earlier writes are taken back by one that is too great, or for which there is no room.
func TestPutsBehindWrites(t *testing.T) {
	const first = "text 1, text 2, put, text 2, del, text 0, text 5, put, "
	size := run{m: module(fn("f", 0, first+"text 5, text 1, two +, text 1, put, return")), store: stored}
	size.mustDo(t, traps(api.TrapSize, 4+4+8+4+8), "")
	doubled := "x2 load 0, two +, store 0, "
	size.m = module(fn("f", 1, first+"text 5, store 0, "+doubled+doubled+"text 1, load 0, text 1, two +, put, return"))
	size.mustDo(t, traps(api.TrapSize, 16+8+16+16), "")
	room := run{m: module(fn("f s", 0, "text 1, text 2, put, text 2, text 1, put, load 0, text 1, put, return")), store: "a=" + full()[2:]}
	// Without b there are 265 left: two puts of 10 each fit there, and a third one of a key that takes the rest.
	room.store = strings.Replace(full(), "b="+long(256)+" ", "", 1)
	for n, want := range map[int]api.Outcome{0: ends(api.Value{}, 12), 64: ends(api.Value{}, 16), 65: traps(api.TrapSize, 16)} {
		room.args = []api.Value{text(long(n))}
		after := "a=k " + room.store + " k=a " + long(n) + "=a"
		if n == 0 {
			after = "=a a=k " + room.store + " k=a"
		}
		room.mustDo(t, want, after)
	}
	quota := run{m: module(fn("f s", 0, "text 1, text 2, put, text 2, load 0, put, return")), store: room.store}
	for n, want := range map[int]api.Outcome{0: ends(api.Value{}, 8), 246: ends(api.Value{}, 8+15), 247: traps(api.TrapQuota, 8+15), 256: traps(api.TrapQuota, 8+16)} {
		quota.args = []api.Value{text(long(n))}
		quota.mustDo(t, want, "a=k "+quota.store+" k="+long(n))
	}
}

// P14.1: drop takes the top, and no more.
func TestDrop(t *testing.T) {
	mustCome(t, ":i", "num 1, num 2, drop, return", ends(num(1), 0))
	mustCome(t, ":i", "num 1, bool 1, text 1, x2 drop, return", ends(num(1), 0))
	mustCome(t, "", "num 1, bool 1, text 1, x3 drop, return", ends(api.Value{}, 0))
}

// P14.1: jumps ahead and behind; what is jumped over does nothing.
func TestJumps(t *testing.T) {
	mustCome(t, ":i", "num 1, jump 3, drop, return", ends(num(1), 0))
	mustCome(t, ":i", "jump 3, num 2, return, num 1, return", ends(num(1), 0))
	mustCome(t, ":i", "jump 4, gas 7, num 2, return, jump 1", ends(num(2), 7))
	mustCome(t, ":i", "jump 1, num 2, jump 3, return", ends(num(2), 0))
	const choice = "load 0, unless 5, gas 1, num 1, return, gas 2, num 2, return"
	mustCome(t, "b:i", choice, ends(num(1), 1), truth(true))
	mustCome(t, "b:i", choice, ends(num(2), 2), truth(false))
	const next = "num 1, load 0, unless 3, return"
	mustCome(t, "b:i", next, ends(num(1), 0), truth(true))
	mustCome(t, "b:i", next, ends(num(1), 0), truth(false))
	const back = "jump 4, gas 2, num 2, return, load 0, unless 1, gas 1, num 1, return"
	mustCome(t, "b:i", back, ends(num(1), 1), truth(true))
	mustCome(t, "b:i", back, ends(num(2), 2), truth(false))
	const loop = "load 0, num 0, two >, unless 10, gas 1, load 0, num 1, two -, store 0, jump 0, load 0, return"
	for _, n := range []int64{0, 1, 2, 50} {
		mustCome(t, "i:i", loop, ends(num(0), n), num(n))
	}
	mustCome(t, "i:i", loop, ends(num(-5), 0), num(-5))
	const until = "load 0, num 1, two -, store 0, gas 1, load 0, num 0, two ==, unless 0, load 0, return"
	mustCome(t, "i:i", until, ends(num(0), 7), num(7))
	mustCome(t, "i:i", until, ends(num(0), 1), num(1))
}

// P14.1: what stands on the stack stays there behind a jump.
func TestStackAcrossJumps(t *testing.T) {
	const sum = "num 7, load 0, unless 5, num 2, jump 6, num 3, two *, return"
	mustCome(t, "b:i", sum, ends(num(14), 0), truth(true))
	mustCome(t, "b:i", sum, ends(num(21), 0), truth(false))
	const rounds = "num 1, gas 1, load 0, num 1, two -, store 0, num 3, two *, load 0, num 0, two ==, unless 1, return"
	mustCome(t, "i:i", rounds, ends(num(243), 5), num(5))
}

// P14.1: the greatest stack.
func TestGreatestStack(t *testing.T) {
	mustCome(t, ":i", "x2100 num 3, x2099 two +, return", ends(num(6300), 0))
	mustCome(t, "", "x2100 num 3, x2100 drop, return", ends(api.Value{}, 0))
}
