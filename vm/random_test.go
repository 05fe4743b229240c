package vm

import (
	"math/rand"
	"strconv"
	"testing"

	"covenant/api"
	"covenant/journal"
	"covenant/verify"
)

// maker makes random modules that are safe: each slot has one type from the beginning on, and jumps lead only to where no more is on the stack than what lies below everything.
type maker struct {
	source *rand.Rand
	m      api.Module
	code   api.Code
	kinds  []api.Type // of the slots
	base   int        // how many values lie below everything
	marks  []int64    // where jumps may lead
	jumps  []int      // whose A is still to be found
}

func pick[T any](source *rand.Rand, l ...T) T { return l[source.Intn(len(l))] }

func (g *maker) kind() api.Type { return api.Type(1 + g.source.Intn(3)) }

func (g *maker) put(op api.Op, a int64) int {
	g.code.Instrs = append(g.code.Instrs, api.Instr{Op: op, A: a})
	return len(g.code.Instrs) - 1
}

// here lets the jump at a place lead to the next instruction.
func (g *maker) here(at int) { g.code.Instrs[at].A = int64(len(g.code.Instrs)) }

// module is up to four functions.
func (g *maker) module() api.Module {
	g.m = api.Module{Texts: texts()}
	for i := range 1 + g.source.Intn(4) {
		c := api.Code{Name: "f" + strconv.Itoa(i), Result: api.Type(g.source.Intn(4))}
		for range g.source.Intn(4) {
			c.Params = append(c.Params, g.kind())
		}
		g.m.Codes = append(g.m.Codes, c)
	}
	for i, c := range g.m.Codes {
		g.m.Codes[i] = g.function(c)
	}
	return g.m
}

func (g *maker) function(c api.Code) api.Code {
	g.code, g.kinds, g.marks, g.jumps, g.base = c, append([]api.Type(nil), c.Params...), nil, nil, g.source.Intn(3)
	for range g.source.Intn(4) {
		kind := g.kind()
		g.leaf(kind)
		g.put(api.OpStore, int64(len(g.kinds)))
		g.kinds = append(g.kinds, kind)
	}
	g.code.Slots = len(g.kinds)
	for range g.base {
		g.leaf(g.kind())
	}
	for range 2 + g.source.Intn(9) {
		g.marks = append(g.marks, int64(len(g.code.Instrs)))
		g.statement()
	}
	g.marks = append(g.marks, int64(len(g.code.Instrs)))
	g.finish()
	for _, at := range g.jumps {
		g.code.Instrs[at].A = pick(g.source, g.marks...)
	}
	return g.code
}

// finish returns.
func (g *maker) finish() {
	for range g.base {
		g.put(api.OpDrop, 0)
	}
	if g.code.Result != api.TypeNone {
		g.expr(g.code.Result, 2)
	}
	g.put(api.OpReturn, 0)
}

// statement leaves the stack as it is.
func (g *maker) statement() {
	if g.source.Intn(4) > 0 {
		g.put(api.OpGas, g.source.Int63n(3))
	}
	switch k := g.source.Intn(20); {
	case k < 5 && len(g.kinds) > 0:
		slot := g.source.Intn(len(g.kinds))
		g.expr(g.kinds[slot], 3)
		g.put(api.OpStore, int64(slot))
	case k < 8:
		g.expr(api.TypeBytes, 1)
		g.expr(api.TypeBytes, 2)
		g.put(api.OpPut, 0)
	case k < 10:
		g.expr(api.TypeBytes, 1)
		g.put(api.OpDel, 0)
	case k < 13:
		g.expr(api.TypeBool, 2)
		g.jumps = append(g.jumps, g.put(api.OpUnless, 0))
	case k < 14:
		g.jumps = append(g.jumps, g.put(api.OpJump, 0))
	case k < 15 && g.source.Intn(3) == 0:
		g.finish()
	case k < 18:
		if at := g.source.Intn(len(g.m.Codes)); g.call(at) != api.TypeNone {
			g.put(api.OpDrop, 0)
		}
	default:
		g.expr(g.kind(), 3)
		g.put(api.OpDrop, 0)
	}
}

// call calls a function, and returns the type of what it returns.
func (g *maker) call(at int) api.Type {
	for _, kind := range g.m.Codes[at].Params {
		g.expr(kind, 1)
	}
	g.put(api.OpCall, int64(at))
	return g.m.Codes[at].Result
}

// expr pushes a value of a type.
func (g *maker) expr(kind api.Type, levels int) {
	if levels <= 0 || g.source.Intn(3) == 0 {
		g.leaf(kind)
		return
	}
	two := func(kind api.Type, from, to int64) {
		g.expr(kind, levels-1)
		g.expr(kind, levels-1)
		g.put(api.OpTwo, from+g.source.Int63n(to-from+1))
	}
	one := func(kind api.Type, op api.Op, a int64) {
		g.expr(kind, levels-1)
		g.put(op, a)
	}
	k := g.source.Intn(8)
	if at := g.source.Intn(len(g.m.Codes)); k == 0 && g.m.Codes[at].Result == kind {
		g.call(at)
		return
	}
	if k == 1 {
		g.expr(api.TypeBool, levels-1)
		unless := g.put(api.OpUnless, 0)
		g.expr(kind, levels-1)
		jump := g.put(api.OpJump, 0)
		g.here(unless)
		g.expr(kind, levels-1)
		g.here(jump)
		return
	}
	switch {
	case kind == api.TypeInt && k < 3:
		one(api.TypeInt, api.OpOne, 2)
	case kind == api.TypeInt && k < 4:
		one(api.TypeBytes, api.OpLen, 0)
	case kind == api.TypeInt:
		two(api.TypeInt, 1, 5)
	case kind == api.TypeBytes && k < 4:
		one(api.TypeBytes, api.OpGet, 0)
	case kind == api.TypeBytes:
		two(api.TypeBytes, 1, 1)
	case k < 3:
		one(api.TypeBool, api.OpOne, 12)
	case k < 4:
		one(api.TypeBytes, api.OpHas, 0)
	case k < 6:
		two(api.TypeInt, 6, 9)
	default:
		two(g.kind(), 10, 11)
	}
}

// leaf pushes a slot, or a value that stands in the module.
func (g *maker) leaf(kind api.Type) {
	var slots []int64
	for slot, k := range g.kinds {
		if k == kind {
			slots = append(slots, int64(slot))
		}
	}
	switch {
	case len(slots) > 0 && g.source.Intn(3) > 0:
		g.put(api.OpLoad, pick(g.source, slots...))
	case kind == api.TypeInt:
		g.put(api.OpNum, pick(g.source, edges()...))
	case kind == api.TypeBool:
		g.put(api.OpBool, g.source.Int63n(2))
	default:
		g.put(api.OpText, int64(g.source.Intn(len(g.m.Texts))))
	}
}

// argsFor is random arguments that fit.
func argsFor(source *rand.Rand, params []api.Type) []api.Value {
	var l []api.Value
	for _, kind := range params {
		switch kind {
		case api.TypeInt:
			l = append(l, num(pick(source, edges()...)))
		case api.TypeBool:
			l = append(l, api.Value{Type: kind, Num: pick[int64](source, 0, 1, 1, 2, -1)})
		default:
			l = append(l, text(pick(source, "", "a", "k", "\x00\xff", long(16), long(64), long(65), long(200), long(256))))
		}
	}
	return l
}

// randomStore is a store with no pairs, a few, or as many as there is room for.
func randomStore(source *rand.Rand) map[string]string {
	switch source.Intn(4) {
	case 0:
		return map[string]string{}
	case 1:
		return map[string]string{"a": "1", "": "empty", "k": long(200)}
	case 2:
		return map[string]string{"a": long(256), "b": long(256), "c": long(256), "d": long(256), "e": long(256), "f": long(256), "k": long(256 - source.Intn(3)), "z": long(100 + source.Intn(84))}
	}
	return map[string]string{"k": "a", long(16): "k"}
}

// checkRun holds a run against the second reading.
func checkRun(t *testing.T, m api.Module, at int, args []api.Value, stored map[string]string, limit int64, count map[api.Op]int) api.Outcome {
	t.Helper()
	want, after := wanted(m, at, args, stored, limit, count)
	j := journal.New(pairsIn(stored))
	o := Run(m, m.Codes[at].Name, args, j, limit)
	if !same(o, want) || tell(j.Pairs()) != tell(pairsIn(after)) {
		t.Fatalf("%.3000v\nfunction %d, %.300v, limit %d: %s, %.2000q; want %s, %.2000q", m.Codes, at, args, limit, told(o), tell(j.Pairs()), told(want), tell(pairsIn(after)))
	}
	if most := min(max(limit, 0), api.MaxGas); o.Used < 0 || o.Used > most || o.Trap == api.TrapGas && o.Used != most {
		t.Fatalf("%.3000v\nfunction %d, limit %d: %s", m.Codes, at, limit, told(o))
	}
	if o.Trap != api.TrapNone && j.Mark() != 0 {
		t.Fatalf("%.3000v\nfunction %d: the run trapped, and %d changes were left", m.Codes, at, j.Mark())
	}
	return o
}

// P14.1, P14.3: random modules come to what they come to in the second reading; all that trap leave what was stored, none uses more than there is, and each ends.
func TestRandomModules(t *testing.T) {
	g := &maker{source: rand.New(rand.NewSource(1))}
	ended, count := map[api.Trap]int{}, map[api.Op]int{}
	for range 1500 {
		m := g.module()
		if e := verify.Check(m); e != api.OK {
			t.Fatalf("%v: %v", m.Codes, e)
		}
		for at, c := range m.Codes {
			args, stored := argsFor(g.source, c.Params), randomStore(g.source)
			o := checkRun(t, m, at, args, stored, pick[int64](g.source, 100, 300, 1000), count)
			ended[o.Trap]++
			for _, limit := range []int64{o.Used - 1, o.Used, g.source.Int63n(o.Used + 1)} {
				ended[checkRun(t, m, at, args, stored, limit, count).Trap]++
			}
		}
	}
	for trap := api.TrapNone; trap <= api.TrapSize; trap++ {
		if ended[trap] < 100 {
			t.Errorf("only %d runs with trap %d", ended[trap], trap)
		}
	}
	for op := api.OpGas; op <= api.OpReturn; op++ {
		if count[op] < 1000 {
			t.Errorf("only %d times the op %d", count[op], op)
		}
	}
}

// P14.3: with all gas that there can be.
func TestRandomModulesWithAllGas(t *testing.T) {
	g := &maker{source: rand.New(rand.NewSource(2))}
	used := 0
	for range 150 {
		m := g.module()
		for at, c := range m.Codes {
			o := checkRun(t, m, at, argsFor(g.source, c.Params), randomStore(g.source), pick[int64](g.source, api.MaxGas, api.MaxGas+1, 1<<40), map[api.Op]int{})
			if o.Used == api.MaxGas {
				used++
			}
		}
	}
	if used < 20 {
		t.Errorf("only %d runs used all", used)
	}
}
