package verify

import (
	"math"
	"slices"
	"strconv"
	"strings"
	"testing"

	"covenant/api"
)

// pushes are instructions that push a type each.
func pushes(letters string) []api.Instr {
	var l []api.Instr
	for _, c := range letters {
		l = append(l, lay(map[rune]string{'i': "num 7", 'b': "bool 1", 's': "text 0"}[c])...)
	}
	return l
}

// takes are instructions that pass only with these types on the stack, and return.
func takes(letters string) []api.Instr {
	var l []api.Instr
	for i := len(letters) - 1; i >= 0; i-- {
		l = append(l, pushes(letters[i:i+1])...)
		l = append(l, lay("two ==, drop")...)
	}
	return append(l, lay("return")...)
}

// stacksUpTo are all stacks of at most n types.
func stacksUpTo(n int) []string {
	l := []string{""}
	for from := 0; n > 0; n-- {
		to := len(l)
		for _, s := range l[from:to] {
			l = append(l, "i"+s, "b"+s, "s"+s)
		}
		from = to
	}
	return l
}

// others are the functions that the instructions under test may call.
func others() []api.Code {
	return []api.Code{
		fn("none", "", "", 0, "return"),
		fn("gives", "", "s", 0, "text 0, return"),
		fn("takes", "sib", "", 3, "return"),
		fn("both", "bi", "i", 2, "num 1, return"),
	}
}

// around is a function that has an instruction ahead of which and behind which there is more.
func around(callees []api.Code, before []api.Instr, instr string, behind []api.Instr) api.Module {
	c := fn("f", "ibs", "", 4, "")
	c.Instrs = slices.Concat(before, lay(instr), behind)
	return module(append(slices.Clip(callees), c)...)
}

// effects are the instructions whose effect does not depend on slots, each with the stacks that it makes others of.
func effects() map[string]string {
	l := map[string]string{
		"gas 0": ">", "gas 1": ">", "gas 99999": ">", "gas 100000": ">",
		"bool 0": ">b", "bool 1": ">b", "text 0": ">s", "text 1": ">s",
		"load 0": ">i", "load 1": ">b", "load 2": ">s",
		"one -": "i>i", "one !": "b>b",
		"call 0": ">", "call 1": ">s", "call 2": "sib>", "call 3": "bi>i",
	}
	for _, a := range []int64{0, 1, -1, 4, math.MaxInt64, math.MinInt64, 1 << 32} {
		for op, effect := range map[string]string{"num": ">i", "get": "s>s", "has": "s>b", "len": "s>i", "put": "ss>", "del": "s>", "drop": "i> b> s>"} {
			l[op+" "+strconv.FormatInt(a, 10)] = effect
		}
	}
	for slot := range 4 {
		l["store "+strconv.Itoa(slot)] = "i> b> s>"
	}
	for sign, rows := range wantMade {
		var effect []string
		for _, s := range strings.Fields(rows) {
			effect = append(effect, s[:2]+">"+s[2:])
		}
		l["two "+sign] = strings.Join(effect, " ")
	}
	return l
}

// never are instructions that fail with every stack, in a module with 2 Texts, 4 Slots of which one is not known, and 5 Codes.
func never() []string {
	l := []string{"load 3", "bool 2"}
	for _, a := range []string{"-1", "-2", "-9223372036854775808", "9223372036854775807", "4294967296", "4294967297", "-4294967295", "1099511627776"} {
		for _, op := range strings.Fields("gas bool text load store two one call jump unless") {
			l = append(l, op+" "+a)
		}
	}
	l = append(l, "gas 100001", "text 2", "text 3", "load 4", "store 4", "two 0", "two 12", "two 13", "one 0", "one 13", "call 5")
	for n := range 12 {
		if n != 2 && n != 12 {
			l = append(l, "one "+strconv.Itoa(n))
		}
	}
	return l
}

// after is what an effect makes of a stack, if it finds what it needs there.
func after(effect, stack string) (string, bool) {
	for _, e := range strings.Fields(effect) {
		old, other, _ := strings.Cut(e, ">")
		if strings.HasSuffix(stack, old) {
			return strings.TrimSuffix(stack, old) + other, true
		}
	}
	return "", false
}

// P13.1: each instruction, with each stack of up to three types ahead of it, leaves the stack that it should and no other.
func TestEachInstruction(t *testing.T) {
	callees, stacks, taken := others(), stacksUpTo(4), map[string][]api.Instr{}
	for _, s := range stacks {
		taken[s] = takes(s)
	}
	for instr, effect := range effects() {
		found := 0
		for _, before := range stacksUpTo(3) {
			want, is := after(effect, before)
			pushed := pushes(before)
			for _, other := range stacks {
				e := Check(around(callees, pushed, instr, taken[other]))
				if right := is && other == want; right != (e == api.OK) || !right && e != api.ErrStack {
					t.Fatalf("%q, %s, %q: %v", before, instr, other, e)
				} else if right {
					found++
				}
			}
		}
		if (found == 0) != (effect == "") {
			t.Errorf("%s was safe %d times", instr, found)
		}
	}
}

// P13.1: instructions with an A that is not permitted fail.
func TestWrongA(t *testing.T) {
	callees := others()
	for _, instr := range never() {
		for _, before := range stacksUpTo(3) {
			for _, other := range stacksUpTo(2) {
				mustBe(t, api.ErrStack, around(callees, pushes(before), instr, takes(other)))
			}
		}
	}
}

// P13.1: each number is the sign that it is: neither the one ahead of it nor the one behind.
func TestSignNumbers(t *testing.T) {
	for n := int64(-1); n <= 14; n++ {
		sign := ""
		if n >= 1 && n <= 12 {
			sign = signs[n-1]
		}
		for _, operands := range []string{"ii", "bb", "ss", "ib", "si", "bs"} {
			for _, res := range []string{"i", "b", "s"} {
				c := fn("f", "", res, 0, "")
				c.Instrs = append(pushes(operands), append(lay("two "+strconv.FormatInt(n, 10)), lay("return")...)...)
				want := api.ErrStack
				if k := types(operands); made(wantMade[sign], k[0], k[1]) == result(res) {
					want = api.OK
				}
				mustBe(t, want, module(c))
			}
		}
		for _, operand := range []string{"i", "b", "s"} {
			c := fn("f", "", operand, 0, "")
			c.Instrs = append(pushes(operand), append(lay("one "+strconv.FormatInt(n, 10)), lay("return")...)...)
			want := api.ErrStack
			if sign == "-" && operand == "i" || sign == "!" && operand == "b" {
				want = api.OK
			}
			mustBe(t, want, module(c))
		}
	}
}

// P13.1: the least and the greatest Text that a module has, and one less and one more.
func TestTextEdges(t *testing.T) {
	for _, n := range []int{0, 1, 2, 31, 1023, 1024} {
		for _, a := range []int{-1, 0, n / 2, n - 1, n, n + 1} {
			m := module(fn("f", "", "s", 0, "text "+strconv.Itoa(a)+", return"))
			m.Texts = make([][]byte, n)
			want := api.ErrStack
			if a >= 0 && a < n {
				want = api.OK
			}
			mustBe(t, want, m)
		}
	}
}

// P13.1: the least and the greatest instruction that a function has, and one less and one more.
func TestJumpEdges(t *testing.T) {
	for _, n := range []int{3, 4, 50, api.MaxInstrs} {
		for _, a := range []int{-1, 0, n - 1, n, n + 1} {
			for _, head := range []string{"gas 1, jump ", "bool 1, unless "} {
				c := fn("f", "", "", 0, head+strconv.Itoa(a))
				for range n - 3 {
					c.Instrs = append(c.Instrs, api.Instr{Op: api.OpGas})
				}
				c.Instrs = append(c.Instrs, lay("return")...)
				want := api.ErrStack
				if a >= 0 && a < n {
					want = api.OK
				}
				mustBe(t, want, module(c))
			}
		}
	}
}

// P13.1: the least and the greatest Code that a module has, and one less and one more.
func TestCallEdges(t *testing.T) {
	for _, n := range []int{1, 2, 33, api.MaxCodes} {
		for caller := range n {
			for _, a := range []int{-1, 0, n / 2, n - 1, n, n + 1, api.MaxCodes} {
				m := module()
				for _, name := range many(n) {
					m.Codes = append(m.Codes, fn(name, "", "", 0, "return"))
				}
				m.Codes[caller].Instrs = lay("call " + strconv.Itoa(a) + ", return")
				want := api.ErrStack
				if a >= 0 && a < n {
					want = api.OK
				}
				mustBe(t, want, m)
			}
		}
	}
}

// P13.1: the least and the greatest slot that a function has, and one less and one more.
func TestSlotEdges(t *testing.T) {
	for _, n := range []int{0, 1, 2, 31, 32, 33, 63, 64, 65, 255, 256} {
		for _, a := range []int{-1, 0, n / 2, n - 1, n, n + 1, 255, 256} {
			is := a >= 0 && a < n
			slot := strconv.Itoa(a)
			for _, kind := range []string{"i", "b", "s"} {
				c := fn("f", "", kind, n, "")
				c.Instrs = append(pushes(kind), lay("store "+slot+", load "+slot+", return")...)
				want := api.ErrStack
				if is {
					want = api.OK
				}
				mustBe(t, want, module(c))
			}
			mustBe(t, api.ErrStack, module(fn("f", "", "i", n, "load "+slot+", return")))
		}
	}
}

// P13.1: what is stored in one slot is known there, and in no other.
func TestEachSlot(t *testing.T) {
	for slot := range 256 {
		for _, kind := range []string{"i", "b", "s"} {
			for _, other := range []int{slot, slot ^ 1, slot ^ 32, slot ^ 128, 255 - slot} {
				c := fn("f", "", kind, 256, "")
				c.Instrs = slices.Concat(pushes(kind), lay("store "+strconv.Itoa(slot)+", load "+strconv.Itoa(other)+", return"))
				want := api.ErrStack
				if slot == other {
					want = api.OK
				}
				mustBe(t, want, module(c))
			}
		}
	}
}

// stored stores a type in a slot.
func stored(slot int, kind string) []api.Instr {
	return append(pushes(kind), lay("store "+strconv.Itoa(slot))...)
}

// held passes only if a slot has a type.
func held(slot int, kind string) []api.Instr {
	return slices.Concat(lay("load "+strconv.Itoa(slot)), pushes(kind), lay("two ==, drop"))
}

// P13.1: all slots are known side by side, and only the one that is stored again has another type.
func TestAllSlots(t *testing.T) {
	kinds := strings.Split("ibs", "")
	var all []api.Instr
	for slot := range 256 {
		all = append(all, stored(slot, kinds[slot%3])...)
	}
	for again := range 256 {
		var others []api.Instr
		for slot := range 256 {
			if slot != again {
				others = append(others, held(slot, kinds[slot%3])...)
			}
		}
		for k, kind := range kinds {
			for l, other := range kinds {
				c := fn("f", "", "", 256, "")
				c.Instrs = slices.Concat(all, stored(again, kind), others, held(again, other), lay("return"))
				want := api.ErrStack
				if k == l {
					want = api.OK
				}
				mustBe(t, want, module(c))
			}
		}
	}
}

// P13.1: slots: those of parameters, those that are not known, and those that are stored.
func TestSlots(t *testing.T) {
	mustAll(t, []row{
		{"", "i", 1, "load 0, return", api.ErrStack},
		{"i", "i", 1, "load 0, return", api.OK},
		{"b", "i", 1, "load 0, return", api.ErrStack},
		{"i", "i", 2, "load 1, return", api.ErrStack},
		{"ibs", "i", 3, "load 0, return", api.OK},
		{"ibs", "b", 3, "load 1, return", api.OK},
		{"ibs", "s", 3, "load 2, return", api.OK},
		{"ibs", "s", 3, "load 1, return", api.ErrStack},
		{"ibs", "s", 4, "load 3, return", api.ErrStack},
		{"i", "b", 1, "bool 1, store 0, load 0, return", api.OK},
		{"i", "i", 1, "bool 1, store 0, load 0, return", api.ErrStack},
		{"i", "i", 1, "load 0, bool 1, store 0, return", api.OK},
		{"", "i", 1, "num 1, store 0, load 0, return", api.OK},
		{"", "i", 1, "load 0, num 1, store 0, return", api.ErrStack},
		{"", "i", 2, "num 1, store 0, load 1, return", api.ErrStack},
		{"", "i", 2, "num 1, store 1, load 1, return", api.OK},
		{"", "s", 1, "num 1, store 0, text 0, store 0, load 0, return", api.OK},
		{"", "", 1, "store 0, return", api.ErrStack},
		{"i", "", 1, "load 0, store 0, store 0, return", api.ErrStack},
		{"sssssssssssssssi", "i", 16, "load 15, return", api.OK},
		{"sssssssssssssssi", "i", 16, "load 14, return", api.ErrStack},
	})
}

// P13.1: a call pops the parameters, the last one first, and pushes the Result.
func TestCalls(t *testing.T) {
	callees := []api.Code{
		fn("none", "", "", 0, "return"),
		fn("int", "", "i", 0, "num 1, return"),
		fn("order", "ib", "s", 2, "text 0, return"),
		fn("still", "bs", "", 2, "return"),
		fn("all", strings.Repeat("ibs", 5)+"i", "b", 16, "bool 1, return"),
	}
	for _, r := range []row{
		{"", "", 0, "call 0, return", api.OK},
		{"", "", 0, "call 0, drop, return", api.ErrStack},
		{"", "i", 0, "num 1, call 0, return", api.OK},
		{"", "i", 0, "call 1, return", api.OK},
		{"", "", 0, "call 1, return", api.ErrStack},
		{"", "b", 0, "call 1, return", api.ErrStack},
		{"", "", 0, "call 1, drop, return", api.OK},
		{"", "s", 0, "num 1, bool 1, call 2, return", api.OK},
		{"", "s", 0, "bool 1, num 1, call 2, return", api.ErrStack},
		{"", "s", 0, "bool 1, call 2, return", api.ErrStack},
		{"", "s", 0, "num 1, call 2, return", api.ErrStack},
		{"", "s", 0, "call 2, return", api.ErrStack},
		{"", "s", 0, "num 1, num 1, bool 1, call 2, return", api.ErrStack},
		{"", "i", 0, "num 1, num 1, bool 1, call 2, len, drop, return", api.OK},
		{"", "", 0, "bool 1, text 0, call 3, return", api.OK},
		{"", "", 0, "text 0, bool 1, call 3, return", api.ErrStack},
		{"", "b", 0, "bool 1, text 0, call 3, return", api.ErrStack},
		{"", "", 0, "bool 1, text 0, call 3, drop, return", api.ErrStack},
		{"i", "i", 1, "load 0, call 5, return", api.OK},
		{"i", "i", 1, "call 5, return", api.ErrStack},
		{"i", "b", 1, "load 0, call 5, return", api.OK},
		{"i", "", 1, "load 0, call 5, return", api.OK},
		{"s", "i", 1, "num 1, call 5, return", api.ErrStack},
		{"", "i", 0, "call 5, return", api.OK},
		{"", "", 0, "call 6, return", api.ErrStack},
		{"", "b", 0, strings.Repeat("num 1, bool 1, text 0, ", 5) + "num 1, call 4, return", api.OK},
		{"", "b", 0, strings.Repeat("num 1, bool 1, text 0, ", 5) + "bool 1, call 4, return", api.ErrStack},
		{"", "b", 0, "bool 1, bool 1, text 0, " + strings.Repeat("num 1, bool 1, text 0, ", 4) + "num 1, call 4, return", api.ErrStack},
		{"", "b", 0, strings.Repeat("num 1, bool 1, text 0, ", 5) + "call 4, return", api.ErrStack},
	} {
		mustBe(t, r.want, module(append(callees[:5:5], fn("f", r.params, r.res, r.slots, r.instrs))...))
	}
	// A call is held against the Code with this index, whether it stands ahead or behind.
	f, g := fn("f", "", "i", 0, "call 1, return"), fn("g", "", "i", 0, "num 1, return")
	mustBe(t, api.OK, module(f, g))
	mustBe(t, api.OK, module(g, f))
	mustBe(t, api.ErrStack, module(f))
	g.Result, g.Instrs = api.TypeBytes, lay("text 0, return")
	mustBe(t, api.ErrStack, module(f, g))
}

// P13.1: a return finds the Result on the stack, and nothing else.
func TestReturns(t *testing.T) {
	for _, res := range []string{"", "i", "b", "s"} {
		for _, stack := range stacksUpTo(3) {
			c := fn("f", "", res, 0, "")
			c.Instrs = append(pushes(stack), lay("return")...)
			want := api.ErrStack
			if stack == res {
				want = api.OK
			}
			mustBe(t, want, module(c))
		}
	}
}

// P13.1: a stack has at most MaxStack elements.
func TestHighStacks(t *testing.T) {
	high := func(n int, behind string) []api.Instr {
		l := make([]api.Instr, n)
		for i := range l {
			l[i] = api.Instr{Op: api.OpNum, A: int64(i)}
		}
		return append(append(l, lay(behind)...), lay("jump "+strconv.Itoa(n+len(lay(behind))))...)
	}
	m := module(append(others(), fn("one", "i", "i", 1, "load 0, return"), fn("f", "i", "", 1, ""))...)
	for _, r := range []struct {
		height int
		behind string
		want   api.Errno
	}{
		{2099, "", api.OK},
		{2100, "", api.OK},
		{2101, "", api.ErrStack},
		{2099, "num 1", api.OK},
		{2100, "num 1", api.ErrStack},
		{2100, "bool 1", api.ErrStack},
		{2100, "text 0", api.ErrStack},
		{2100, "load 0", api.ErrStack},
		{2099, "load 0", api.OK},
		{2100, "call 1", api.ErrStack},
		{2099, "call 1", api.OK},
		{2100, "call 0", api.OK},
		{2100, "call 4", api.OK},
		{2100, "two +, num 1", api.OK},
		{2100, "two +, num 1, num 1", api.ErrStack},
		{2100, "two +", api.OK},
		{2100, "one -", api.OK},
		{2100, "drop, text 0, get", api.OK},
		{2100, "drop, num 1", api.OK},
		{2100, "store 0, load 0", api.OK},
		{2100, "store 0, load 0, load 0", api.ErrStack},
		{2100, "gas 1", api.OK},
		{2098, "bool 1, num 1", api.OK},
		{2098, "bool 1, num 1, drop, num 1", api.OK},
		{2098, "bool 1, num 1, drop, num 1, num 1", api.ErrStack},
		{2200, strings.Repeat("drop,", 2200), api.ErrStack},
	} {
		c := &m.Codes[len(m.Codes)-1]
		// The last instruction jumps to itself, so that nothing need be dropped.
		c.Instrs = high(r.height, r.behind)
		if e := Check(m); e != r.want {
			t.Errorf("%d, %s: %v", r.height, r.behind, e)
		}
	}
	// Up and down again, and up through a loop that never ends to grow.
	c := fn("f", "", "", 0, strings.Repeat("num 1,", 2100)+strings.Repeat("drop,", 2100)+"return")
	mustBe(t, api.OK, module(c))
	mustBe(t, api.ErrStack, module(fn("f", "", "", 0, "num 1, jump 0")))
}
