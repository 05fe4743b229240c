package verify

import (
	"maps"
	"math"
	"math/rand"
	"slices"
	"strings"
	"testing"

	"covenant/api"
	"covenant/code"
	"covenant/compile"
)

// maker makes random functions that are mostly nearly safe: it keeps the types on the stack along the text.
type maker struct {
	source *rand.Rand
	m      api.Module
	c      api.Code
	stack  string
	slots  map[int64]byte
	before []known // ahead of each instruction
	ahead  []int   // jumps whose place is still to be found
}

func (g *maker) put(op api.Op, a int64) {
	g.c.Instrs = append(g.c.Instrs, api.Instr{Op: op, A: a})
	g.before = append(g.before, known{g.stack, maps.Clone(g.slots)})
}

// push adds an instruction that pushes a type.
func (g *maker) push(kind byte) {
	var slots []int64
	for slot := range int64(g.c.Slots) {
		if g.slots[slot] == kind {
			slots = append(slots, slot)
		}
	}
	switch {
	case len(slots) > 0 && g.source.Intn(3) == 0:
		g.put(api.OpLoad, pick(g.source, slots...))
	case kind == 'i':
		g.put(api.OpNum, g.source.Int63n(9)-4)
	case kind == 'b':
		g.put(api.OpBool, g.source.Int63n(2))
	default:
		g.put(api.OpText, int64(g.source.Intn(len(g.m.Texts))))
	}
	g.stack += string(kind)
}

// apply adds an instruction with an effect, after what it lacks was pushed.
func (g *maker) apply(op api.Op, a int64, effect string) {
	stack, is := after(effect, g.stack)
	if !is {
		old, _, _ := strings.Cut(effect, ">")
		for i := range old {
			g.push(old[i])
		}
		stack, _ = after(effect, g.stack)
	}
	g.put(op, a)
	g.stack = stack
}

// branch adds a jump back to a place with the same stack, or one ahead.
func (g *maker) branch(op api.Op) {
	stack := g.stack
	if op == api.OpUnless {
		g.apply(op, 0, "b>")
		stack = g.stack
	} else {
		g.put(op, 0)
	}
	at := len(g.c.Instrs) - 1
	var back []int
	for i, k := range g.before[:at] {
		if k.stack == stack {
			back = append(back, i)
		}
	}
	if len(back) > 0 && g.source.Intn(3) == 0 {
		g.c.Instrs[at].A = int64(pick(g.source, back...))
		return
	}
	g.ahead = append(g.ahead, at)
}

// behind is the stack behind a jump whose place is still to be found.
func (g *maker) behind(at int) string {
	s := g.before[at].stack
	if g.c.Instrs[at].Op == api.OpUnless {
		s = s[:len(s)-1]
	}
	return s
}

// land lets some of the jumps with the same stack lead here.
func (g *maker) land(all bool) {
	g.ahead = slices.DeleteFunc(g.ahead, func(at int) bool {
		if g.behind(at) != g.stack || !all && g.source.Intn(3) > 0 {
			return false
		}
		g.c.Instrs[at].A = int64(len(g.c.Instrs))
		return true
	})
}

// resume goes on where a jump leads that is still open, as nobody comes here otherwise.
func (g *maker) resume() bool {
	if len(g.ahead) == 0 {
		return false
	}
	at := pick(g.source, g.ahead...)
	g.stack, g.slots = g.behind(at), maps.Clone(g.before[at].slots)
	g.land(true)
	return true
}

// finish returns with the Result alone on the stack.
func (g *maker) finish() {
	want := resultLetter(g.c.Result)
	for len(g.stack) > 0 && g.stack != want {
		g.put(api.OpDrop, 0)
		g.stack = g.stack[:len(g.stack)-1]
	}
	if g.stack != want {
		g.push(want[0])
	}
	g.put(api.OpReturn, 0)
}

// step adds an instruction or a few. It is false if nothing can follow.
func (g *maker) step() bool {
	g.land(false)
	switch k := g.source.Intn(16); k {
	case 0:
		g.put(api.OpGas, g.source.Int63n(3))
	case 1, 2:
		g.push("ibs"[g.source.Intn(3)])
	case 3, 4, 5:
		if g.stack == "" {
			g.push("ibs"[g.source.Intn(3)])
		}
		slot := g.source.Int63n(int64(g.c.Slots))
		g.put(api.OpStore, slot)
		g.slots[slot] = g.stack[len(g.stack)-1]
		g.stack = g.stack[:len(g.stack)-1]
	case 6:
		a := 1 + g.source.Int63n(11)
		g.apply(api.OpTwo, a, rows(wantMade[signs[a-1]]))
	case 7:
		sign := g.source.Intn(2)
		g.apply(api.OpOne, []int64{2, 12}[sign], []string{"i>i", "b>b"}[sign])
	case 8, 9:
		op := pick(g.source, api.OpGet, api.OpHas, api.OpLen, api.OpPut, api.OpDel, api.OpDrop)
		g.apply(op, 0, fixed[op])
	case 10:
		a := g.source.Intn(len(g.m.Codes))
		g.apply(api.OpCall, int64(a), lettersOf(g.m.Codes[a].Params)+">"+resultLetter(g.m.Codes[a].Result))
	case 11, 12, 13:
		g.branch(api.OpUnless)
	case 14:
		g.branch(api.OpJump)
		return g.resume()
	default:
		if g.source.Intn(4) == 0 {
			g.finish()
			return g.resume()
		}
	}
	return true
}

// function is one of the functions of the module, whose head is there already.
func (g *maker) function(c api.Code) api.Code {
	g.c, g.stack, g.before, g.slots, g.ahead = c, "", nil, map[int64]byte{}, nil
	for i, t := range c.Params {
		g.slots[int64(i)] = letters[t]
	}
	open := true
	for range 3 + g.source.Intn(25) {
		if open = open && g.step(); !open {
			break
		}
	}
	for open {
		g.finish()
		open = g.resume()
	}
	return g.c
}

// module is up to three random functions.
func (g *maker) module() api.Module {
	g.m = api.Module{Texts: [][]byte{[]byte("a"), nil}[:1+g.source.Intn(2)]}
	for i := range 1 + g.source.Intn(3) {
		c := api.Code{Name: string(rune('f' + i)), Result: api.Type(g.source.Intn(4))}
		for range g.source.Intn(4) {
			c.Params = append(c.Params, api.Type(1+g.source.Intn(3)))
		}
		c.Slots = max(1, len(c.Params)+g.source.Intn(4))
		g.m.Codes = append(g.m.Codes, c)
	}
	for i, c := range g.m.Codes {
		g.m.Codes[i] = g.function(c)
	}
	return g.m
}

// copied is a module with memory of its own.
func copied(m api.Module) api.Module {
	n := api.Module{Codes: slices.Clone(m.Codes), Texts: slices.Clone(m.Texts)}
	for i, c := range n.Codes {
		n.Codes[i].Params, n.Codes[i].Instrs = slices.Clone(c.Params), slices.Clone(c.Instrs)
	}
	for i, s := range n.Texts {
		n.Texts[i] = slices.Clone(s)
	}
	return n
}

// randomA is mostly small, as what is permitted is.
func randomA(source *rand.Rand, n int) int64 {
	switch source.Intn(8) {
	case 0:
		return pick[int64](source, -1, 12, 13, 255, 256, 100000, 100001, math.MaxInt64, math.MinInt64, 1<<32, 1<<32+1)
	case 1:
		return int64(n - source.Intn(2))
	}
	return int64(source.Intn(n + 1))
}

// spoil changes one thing of a module.
func spoil(source *rand.Rand, m *api.Module) {
	c := &m.Codes[source.Intn(len(m.Codes))]
	n := len(c.Instrs)
	if n == 0 {
		c.Instrs = append(c.Instrs, api.Instr{Op: api.OpReturn})
		return
	}
	at := source.Intn(n)
	switch source.Intn(14) {
	case 0, 1, 2:
		c.Instrs[at].A = randomA(source, n)
	case 3:
		c.Instrs[at].Op = api.Op(1 + source.Intn(18))
	case 4:
		c.Instrs[at] = api.Instr{Op: api.Op(1 + source.Intn(18)), A: randomA(source, n)}
	case 5:
		c.Instrs = slices.Delete(c.Instrs, at, at+1)
	case 6:
		c.Instrs = slices.Insert(c.Instrs, at, api.Instr{Op: api.Op(1 + source.Intn(18)), A: randomA(source, 3)})
	case 7:
		c.Instrs[at] = api.Instr{Op: api.OpGas}
	case 8:
		c.Instrs = c.Instrs[:at]
	case 9:
		c.Result = api.Type(source.Intn(5))
	case 10:
		c.Slots += source.Intn(3) - 1
	case 11:
		if len(c.Params) > 0 {
			c.Params[source.Intn(len(c.Params))] = api.Type(source.Intn(5))
		}
	case 12:
		m.Texts = m.Texts[:source.Intn(len(m.Texts)+1)]
	case 13:
		c.Name = "f"
	}
}

// mustRead fails unless Check returns what the second reading says, which it returns.
func mustRead(t *testing.T, m api.Module, source *rand.Rand) (api.Errno, int) {
	t.Helper()
	want, rounds := wantCheck(m, source)
	if e := Check(m); e != want {
		for _, c := range m.Codes {
			t.Logf("%q %v %v %d: %.3000s", c.Name, c.Params, c.Result, c.Slots, told(c.Instrs))
		}
		t.Fatalf("%v; want %v", e, want)
	}
	return want, rounds
}

// P13.1: random modules, many of them with a fault or a few.
func TestRandomModules(t *testing.T) {
	g := &maker{source: rand.New(rand.NewSource(1))}
	count := map[api.Errno]int{}
	many := 0
	for range 6000 {
		m := g.module()
		for range 4 {
			e, rounds := mustRead(t, m, g.source)
			count[e]++
			if e == api.OK && rounds > 4 {
				many++
			}
			m = copied(m)
			spoil(g.source, &m)
		}
	}
	if count[api.OK] < 4000 || count[api.ErrStack] < 4000 || count[api.ErrCode] < 500 || many < 250 {
		t.Errorf("the modules are too much alike: %v, %d of many rounds", count, many)
	}
}

// P13.1: modules of random sources, with a fault or a few.
func TestSpoiledSources(t *testing.T) {
	source := rand.New(rand.NewSource(2))
	w := &writer{source: source}
	count := map[api.Errno]int{}
	for range 300 {
		m, e, _ := compile.Build([]byte(w.program()))
		if e != api.OK {
			continue
		}
		for range 4 {
			n := copied(m)
			for range 1 + source.Intn(2) {
				spoil(source, &n)
			}
			e, _ := mustRead(t, n, source)
			count[e]++
		}
	}
	if count[api.OK] < 120 || count[api.ErrStack] < 300 {
		t.Errorf("the modules are too much alike: %v", count)
	}
}

// P1 and P13.1: instructions of any kind, one behind the other.
func TestAnyInstructions(t *testing.T) {
	source := rand.New(rand.NewSource(3))
	count := map[api.Errno]int{}
	for range 100000 {
		m := api.Module{Texts: make([][]byte, source.Intn(3))}
		for i := range 1 + source.Intn(2) {
			c := api.Code{Name: string(rune('f' + i)), Result: api.Type(source.Intn(4)), Slots: source.Intn(4)}
			for range min(c.Slots, source.Intn(4)) {
				c.Params = append(c.Params, api.Type(1+source.Intn(3)))
			}
			for range 1 + source.Intn(6) {
				c.Instrs = append(c.Instrs, api.Instr{Op: api.Op(1 + source.Intn(18)), A: randomA(source, 5)})
			}
			m.Codes = append(m.Codes, c)
		}
		e, _ := mustRead(t, m, source)
		count[e]++
	}
	if count[api.OK] < 500 || count[api.ErrStack] < 500 {
		t.Errorf("the modules are too much alike: %v", count)
	}
}

// P1: Check of whatever has no valid module's parts comes to an end.
func TestAnyParts(t *testing.T) {
	source := rand.New(rand.NewSource(4))
	odd := func() int {
		return pick(source, 0, 1, 2, 3, 4, -1, 18, 19, 255, 256, 257, math.MaxInt, math.MinInt, source.Int())
	}
	for range 50000 {
		var m api.Module
		for range source.Intn(3) {
			c := api.Code{Result: api.Type(odd()), Slots: odd()}
			for range source.Intn(3) {
				c.Params = append(c.Params, api.Type(odd()))
			}
			for range source.Intn(5) {
				c.Instrs = append(c.Instrs, api.Instr{Op: api.Op(odd()), A: int64(odd())})
			}
			m.Codes = append(m.Codes, c)
		}
		if e := Check(m); !code.Right(m) && e != api.ErrCode || code.Right(m) && e == api.ErrCode {
			t.Fatalf("%+v: %v", m, e)
		}
	}
}
