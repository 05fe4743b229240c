package verify

import (
	"slices"
	"strconv"
	"testing"

	"covenant/api"
)

// P13.1: two ways that meet must have equal stacks there.
func TestStacksThatMeet(t *testing.T) {
	for _, one := range stacksUpTo(3) {
		for _, other := range stacksUpTo(3) {
			a, b := pushes(one), pushes(other)
			// One way falls into the meeting, the other one jumps there.
			meet := 2 + len(a) + 1 + len(b)
			c := fn("f", "", "", 0, "bool 1, unless "+strconv.Itoa(2+len(a)+1))
			c.Instrs = slices.Concat(c.Instrs, a, lay("jump "+strconv.Itoa(meet)), b, takes(one))
			want := api.ErrStack
			if one == other {
				want = api.OK
			}
			mustBe(t, want, module(c))
		}
	}
}

// P13.1: a way back must have the stack that was there.
func TestStacksInLoops(t *testing.T) {
	mustAll(t, []row{
		{"", "", 0, "jump 0", api.OK},
		{"", "", 0, "gas 1, jump 0", api.OK},
		{"", "", 0, "num 1, jump 0", api.ErrStack},
		{"", "", 0, "num 1, drop, jump 0", api.OK},
		{"", "", 0, "num 1, gas 1, jump 1", api.OK},
		{"", "", 0, "num 1, bool 1, jump 1", api.ErrStack},
		{"", "", 0, "num 1, drop, jump 1", api.ErrStack},
		{"", "", 0, "num 1, drop, bool 1, jump 1", api.ErrStack},
		{"", "", 0, "num 1, drop, num 2, jump 1", api.OK},
		{"", "", 0, "bool 1, unless 0, return", api.OK},
		{"", "", 0, "bool 1, unless 1, return", api.ErrStack},
		{"", "", 0, "bool 1, bool 1, unless 1, drop, return", api.OK},
		{"", "", 0, "bool 1, bool 1, unless 0, drop, return", api.ErrStack},
		{"", "", 0, "num 1, bool 1, unless 1, drop, return", api.OK},
		{"", "", 0, "num 1, bool 1, unless 0, drop, return", api.ErrStack},
		{"", "i", 0, "num 1, bool 1, unless 4, gas 1, return", api.OK},
		{"", "i", 0, "num 1, bool 1, unless 3, return", api.OK},
		{"", "i", 0, "bool 1, unless 4, num 1, return, return", api.ErrStack},
		{"", "i", 0, "bool 1, unless 4, num 1, return, num 2, return", api.OK},
		{"", "i", 0, "bool 1, unless 4, num 1, return, bool 1, return", api.ErrStack},
		{"", "i", 0, "bool 1, unless 4, num 1, jump 5, bool 1, return", api.ErrStack},
		{"", "i", 0, "bool 1, unless 4, num 1, jump 5, num 2, return", api.OK},
	})
}

// P13.1: both ways of an OpUnless, and all others, are followed to their ends.
func TestAllWaysAreFollowed(t *testing.T) {
	mustAll(t, []row{
		{"b", "", 1, "load 0, unless 3, return, drop", api.ErrStack},
		{"b", "", 1, "load 0, unless 4, drop, return, return", api.ErrStack},
		{"b", "", 1, "load 0, unless 5, load 0, unless 7, return, load 0, unless 8, return, drop", api.ErrStack},
		{"b", "", 1, "load 0, unless 5, load 0, unless 7, return, load 0, unless 8, return, return", api.OK},
		{"b", "", 1, "load 0, unless 5, load 0, unless 7, drop, load 0, unless 8, return, return", api.ErrStack},
		{"b", "", 1, "load 0, unless 5, load 0, unless 7, return, load 0, unless 8, drop, return", api.ErrStack},
		{"b", "", 1, "load 0, unless 5, load 0, unless 7, return, load 9, unless 8, return, return", api.ErrStack},
	})
	// Many ways leave one after another, and each of them may be the one that fails.
	for _, n := range []int{1, 2, 10, 100} {
		for bad := -1; bad < n; bad++ {
			c := fn("f", "", "", 0, "")
			for i := range n {
				c.Instrs = append(c.Instrs, lay("bool 1, unless "+strconv.Itoa(2*n+1+i))...)
			}
			c.Instrs = append(c.Instrs, lay("return")...)
			for i := range n {
				c.Instrs = append(c.Instrs, lay(map[bool]string{false: "return", true: "drop"}[i == bad])...)
			}
			want := api.ErrStack
			if bad < 0 {
				want = api.OK
			}
			mustBe(t, want, module(c))
		}
	}
}

// met is a function in which one of two ways stores a type in the slot 1, ahead of what follows.
func met(params, one, other, behind string) api.Code {
	a, b := lay(one), lay(other)
	c := fn("f", params, "", 3, "bool 1, unless "+strconv.Itoa(3+len(a)))
	return api.Code{Name: "f", Params: c.Params, Slots: 3, Instrs: slices.Concat(c.Instrs, a, lay("jump "+strconv.Itoa(3+len(a)+len(b))), b, lay(behind+", return"))}
}

// P13.1: a slot whose types differ is not known behind the meeting, and fails only where it is loaded.
func TestSlotsThatMeet(t *testing.T) {
	stores := map[string]string{"": "", "i": "num 1, store 1", "b": "bool 1, store 1", "s": "text 0, store 1"}
	for params, kind := range map[string]string{"": "", "ii": "i", "sb": "b", "bs": "s"} {
		for one, a := range stores {
			for other, b := range stores {
				first, second := one, other
				if first == "" {
					first = kind
				}
				if second == "" {
					second = kind
				}
				want := api.ErrStack
				if first == second && first != "" {
					want = api.OK
				}
				mustBe(t, want, module(met(params, a, b, "load 1, drop")))
				mustBe(t, api.OK, module(met(params, a, b, "gas 1")))
				mustBe(t, api.OK, module(met(params, a, b, "num 1, store 1, load 1, drop")))
				mustBe(t, api.ErrStack, module(met(params, a, b, "load 2, drop")))
				if want == api.OK {
					c := met(params, a, b, "")
					c.Instrs = append(c.Instrs[:len(c.Instrs)-1], append(held(1, first), lay("return")...)...)
					mustBe(t, api.OK, module(c))
				}
			}
		}
	}
}

// P13.1: of all slots, just those whose types differ are not known where ways meet.
func TestOnlySlotsThatDiffer(t *testing.T) {
	kinds := []string{"i", "b", "s"}
	for _, n := range []int{1, 2, 33, 256} {
		for differs := range n {
			for slot := range n {
				if n == 256 && slot != differs && slot != differs^1 && slot != differs^32 && slot%50 != 0 {
					continue
				}
				var both, one []api.Instr
				for i := range n {
					both = append(both, stored(i, kinds[i%3])...)
				}
				one = stored(differs, kinds[(differs+1+n)%3])
				c := fn("f", "", "", n, "")
				c.Instrs = slices.Concat(both, lay("bool 1, unless "+strconv.Itoa(len(both)+2+len(one))), one, held(slot, kinds[slot%3]), lay("return"))
				// If neither way stores, all of them are known still.
				other := c
				other.Instrs = slices.Concat(c.Instrs[:len(both)+2], lay("gas 1, gas 1"), c.Instrs[len(both)+4:])
				want := api.ErrStack
				if slot != differs || (differs+1+n)%3 == differs%3 {
					want = api.OK
				}
				mustBe(t, want, module(c))
				mustBe(t, api.OK, module(other))
			}
		}
	}
}

// P13.1: a loop in which a slot becomes not known only when it is gone through again.
func TestSlotsInLoops(t *testing.T) {
	head := "num 1, store 0, bool 1, unless 9, "
	mustAll(t, []row{
		{"", "", 1, head + "load 0, drop, bool 1, store 0, jump 2, return", api.ErrStack},
		{"", "", 1, head + "load 0, drop, num 2, store 0, jump 2, return", api.OK},
		{"", "", 1, head + "load 0, store 0, load 0, drop, jump 2, return", api.OK},
		{"", "", 1, head + "gas 1, gas 1, bool 1, store 0, jump 2, return", api.OK},
		{"", "", 1, head + "bool 1, store 0, load 0, drop, jump 2, return", api.OK},
		{"", "", 1, head + "bool 1, store 0, num 1, store 0, jump 2, load 0, drop, return", api.OK},
		{"", "", 1, head + "gas 1, gas 1, bool 1, store 0, jump 2, load 0, drop, return", api.ErrStack},
		{"", "", 1, head + "gas 1, gas 1, bool 1, store 0, jump 0, load 0, drop, return", api.OK},
		{"i", "", 1, "load 0, drop, jump 0", api.OK},
		{"i", "", 1, "load 0, drop, bool 1, store 0, jump 0", api.ErrStack},
		{"i", "", 1, "load 0, drop, num 1, store 0, jump 0", api.OK},
		{"i", "", 1, "gas 1, bool 1, store 0, load 0, drop, jump 0", api.OK},
		{"", "", 1, "num 1, store 0, jump 0", api.OK},
		{"", "", 1, "num 1, store 0, load 0, drop, jump 0", api.OK},
		{"", "", 1, "bool 1, unless 3, return, num 1, store 0, jump 0", api.OK},
		{"", "", 1, "bool 1, unless 4, load 0, drop, num 1, store 0, jump 0", api.ErrStack},
	})
	// The way back to the head loads what only a way from further on makes unknown.
	mustBe(t, api.ErrStack, module(fn("f", "i", "", 1, "bool 1, unless 5, load 0, drop, return, bool 1, store 0, jump 0")))
	mustBe(t, api.OK, module(fn("f", "i", "", 1, "bool 1, unless 5, load 0, drop, return, num 1, store 0, jump 0")))
}

// loops is n loops that stand one behind the other, each with a way to the loop ahead of it. The last one stores another type in the slot 0, so that it becomes not known in one loop after the other, from the last one on; the first one loads it.
func loops(n int, last string) api.Code {
	c := fn("f", "i", "", 1, "jump 1, load 0, drop")
	heads := []int{1}
	for range n {
		heads = append(heads, len(c.Instrs))
		c.Instrs = append(c.Instrs, lay("bool 1, unless "+strconv.Itoa(heads[len(heads)-2]))...)
	}
	c.Instrs = append(c.Instrs, lay(last+", store 0, jump "+strconv.Itoa(heads[n]))...)
	return c
}

// P13.1: what becomes not known goes from loop to loop, as far as it must.
func TestManyRounds(t *testing.T) {
	for _, n := range []int{1, 2, 3, 10, 300, 5000} {
		mustBe(t, api.OK, module(loops(n, "num 1")))
		mustBe(t, api.ErrStack, module(loops(n, "bool 1")))
		c := loops(n, "bool 1")
		c.Instrs[1], c.Instrs[2] = lay("gas 1")[0], lay("gas 1")[0]
		mustBe(t, api.OK, module(c))
	}
}

// choices is a function that stores one of two types in each slot, so that the slots become not known one after another, from the last one on, in all that follows.
func choices(size int) api.Code {
	c := api.Code{Name: "f", Slots: api.MaxSlots}
	for slot := range api.MaxSlots {
		at := len(c.Instrs)
		c.Instrs = slices.Concat(c.Instrs, lay("bool 1, unless "+strconv.Itoa(at+5)), stored(slot, "i"), lay("jump "+strconv.Itoa(at+7)), stored(slot, "b"))
	}
	for len(c.Instrs) < size-4 {
		c.Instrs = append(c.Instrs, lay("num 1, drop")...)
	}
	return c
}

// P1 and P13.1: a function whose states change as often as possible, before as many instructions as possible.
func TestManyChanges(t *testing.T) {
	for _, slot := range []int{-1, 0, 1, 100, 255} {
		c := choices(api.MaxInstrs)
		want := api.OK
		if slot >= 0 {
			want = api.ErrStack
			c.Instrs = append(c.Instrs, lay("load "+strconv.Itoa(slot)+", drop")...)
		}
		c.Instrs = append(c.Instrs, lay("return")...)
		if len(c.Instrs) > api.MaxInstrs {
			t.Fatal(len(c.Instrs))
		}
		if e := Check(module(c)); e != want {
			t.Errorf("%d: %v", slot, e)
		}
	}
}
