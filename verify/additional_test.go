package verify

import (
	"math/rand"
	"slices"
	"testing"

	"covenant/api"
	"covenant/compile"
)

// inserted is a module with one more Code, whose calls still lead to the same Codes.
func inserted(m api.Module, at int, c api.Code) api.Module {
	n := copied(m)
	for _, old := range n.Codes {
		for k, i := range old.Instrs {
			if i.Op == api.OpCall && i.A >= int64(at) {
				old.Instrs[k].A++
			}
		}
	}
	n.Codes = slices.Insert(n.Codes, at, c)
	return n
}

// faulty are Codes that are not safe, each for a reason of its own; none of them calls another Code.
func faulty() []api.Code {
	return []api.Code{
		fn("x", "", "", 0, ""),
		fn("x", "", "", 0, "gas 1"),
		fn("x", "", "", 0, "gas 100001, return"),
		fn("x", "", "", 0, "num 1, return"),
		fn("x", "", "i", 0, "return"),
		fn("x", "", "i", 0, "bool 1, return"),
		fn("x", "", "", 0, "drop, return"),
		fn("x", "", "", 0, "bool 2, drop, return"),
		fn("x", "", "", 0, "text -1, drop, return"),
		fn("x", "i", "", 1, "load 1, drop, return"),
		fn("x", "i", "", 2, "load 1, drop, return"),
		fn("x", "i", "", 1, "load 0, store 1, return"),
		fn("x", "ib", "", 2, "load 0, load 1, two +, drop, return"),
		fn("x", "ib", "", 2, "load 0, one !, drop, return"),
		fn("x", "", "", 0, "call -1, return"),
		fn("x", "", "", 0, "jump -1"),
		fn("x", "", "", 0, "jump 1"),
		fn("x", "i", "", 1, "load 0, unless 2, return"),
		fn("x", "b", "", 1, "load 0, unless 3, num 1, return"),
		fn("x", "b", "", 1, "load 0, unless 4, num 1, store 0, jump 0"),
		fn("x", "", "", 0, "num 1, jump 0"),
	}
}

// P13.3: a safe module with one more Code that is not safe by itself is not safe, wherever that Code stands.
func TestAdditionalUnsafe(t *testing.T) {
	source := rand.New(rand.NewSource(1))
	w := &writer{source: source}
	for _, c := range faulty() {
		mustBe(t, api.ErrStack, module(c))
		for range 20 {
			m, e, _ := compile.Build([]byte(w.program()))
			if e != api.OK {
				continue
			}
			mustBe(t, api.OK, m)
			for at := range len(m.Codes) + 1 {
				mustBe(t, api.ErrStack, inserted(m, at, c))
			}
		}
	}
}

// P13.3, the other way round: with one more Code that is safe by itself, a safe module is safe, and an unsafe one is not.
func TestAdditionalSafe(t *testing.T) {
	source := rand.New(rand.NewSource(2))
	g := &maker{source: source}
	w := &writer{source: source}
	count := map[api.Errno]int{}
	for range 3000 {
		m := g.module()
		if source.Intn(2) == 0 {
			if n, e, _ := compile.Build([]byte(w.program())); e == api.OK && len(n.Codes) > 0 {
				m = n
			}
		}
		c := pick(source, fn("x", "", "", 0, "return"), fn("x", "bi", "i", 3, "load 1, store 2, load 0, unless 5, load 2, load 1, return"), fn("x", "bi", "i", 3, "load 1, store 2, load 0, unless 6, load 2, return, load 1, return"))
		alone := Check(module(c))
		for at := range len(m.Codes) + 1 {
			n := inserted(m, at, c)
			want := Check(m)
			if alone != api.OK {
				want = api.ErrStack
			}
			mustBe(t, want, n)
			count[want]++
		}
	}
	if count[api.OK] < 1000 || count[api.ErrStack] < 1000 {
		t.Errorf("the modules are too much alike: %v", count)
	}
}

// P13.3: random modules: one more Code that calls nothing is not safe there if it is not safe by itself.
func TestAdditionalRandom(t *testing.T) {
	source := rand.New(rand.NewSource(3))
	g := &maker{source: source}
	count := map[api.Errno]int{}
	for range 6000 {
		m := g.module()
		other := g.module()
		if source.Intn(2) == 0 {
			spoil(source, &other)
		}
		c := other.Codes[0]
		c.Name = "x"
		if slices.ContainsFunc(c.Instrs, func(i api.Instr) bool { return i.Op == api.OpCall }) {
			continue
		}
		want := Check(api.Module{Codes: []api.Code{c}, Texts: m.Texts})
		if want == api.ErrCode {
			continue
		}
		count[want]++
		if e := Check(m); e != api.OK {
			want = e
		}
		for at := range len(m.Codes) + 1 {
			mustBe(t, want, inserted(m, at, c))
		}
	}
	if count[api.OK] < 500 || count[api.ErrStack] < 500 {
		t.Errorf("the modules are too much alike: %v", count)
	}
}

// P13.3 speaks of a Code that is not safe whatever Codes there are: one that calls another becomes safe when this is added.
func TestAdditionalThatIsCalled(t *testing.T) {
	f, g := fn("f", "", "i", 0, "call 1, return"), fn("g", "", "i", 0, "num 1, return")
	mustBe(t, api.ErrStack, module(f))
	mustBe(t, api.OK, module(f, g))
	g.Result, g.Instrs = api.TypeBool, lay("bool 1, return")
	mustBe(t, api.ErrStack, module(f, g))
}
