package compile

import (
	"bytes"
	"fmt"
	"math"
	"testing"

	"covenant/api"
	"covenant/arith"
	"covenant/eval"
	"covenant/journal"
	"covenant/meter"
)

// machine runs what was compiled, as chapter 14 has it. It looks at nothing: what is wrong with a module makes it panic.
type machine struct {
	m      api.Module
	j      *journal.Journal
	gas    api.Gas
	frames int
	count  map[api.Op]int
}

// stop ends a run.
type stop struct{ trap api.Trap }

func (x *machine) on(trap api.Trap) {
	if trap != api.TrapNone {
		panic(stop{trap})
	}
}

func (x *machine) use(n int64) {
	var enough bool
	if x.gas, enough = meter.Use(x.gas, n); !enough {
		x.on(api.TrapGas)
	}
}

// run runs the function at a place. Whatever it returns must be all that is on its stack.
func (x *machine) run(c api.Code, args []api.Value) api.Value {
	if x.frames == api.MaxCalls {
		x.on(api.TrapDepth)
	}
	x.frames++
	f := &frame{slots: append(args, make([]api.Value, c.Slots-len(args))...)}
	for c.Instrs[f.next].Op != api.OpReturn {
		i := c.Instrs[f.next]
		x.count[i.Op]++
		f.next++
		x.step(f, i)
	}
	x.frames--
	var v api.Value
	if c.Result != api.TypeNone {
		v = f.pop()
	}
	if v.Type != c.Result || len(f.stack) != 0 {
		panic(fmt.Sprint("returned ", v, "; the stack has ", f.stack))
	}
	return v
}

type frame struct {
	next         int
	slots, stack []api.Value
}

func (f *frame) push(v api.Value) { f.stack = append(f.stack, v) }

func (f *frame) pop() api.Value {
	v := f.stack[len(f.stack)-1]
	f.stack = f.stack[:len(f.stack)-1]
	return v
}

func (x *machine) step(f *frame, i api.Instr) {
	switch i.Op {
	case api.OpGas:
		x.use(i.A)
	case api.OpNum:
		f.push(arith.Num(i.A))
	case api.OpBool:
		f.push(api.Value{Type: api.TypeBool, Num: i.A})
	case api.OpText:
		f.push(arith.Text(x.m.Texts[i.A]))
	case api.OpLoad:
		f.push(f.slots[i.A])
	case api.OpStore:
		f.slots[i.A] = f.pop()
	case api.OpTwo:
		b, a := f.pop(), f.pop()
		if i.A == 1 && a.Type == api.TypeBytes {
			x.use(meter.Texts(len(a.Text) + len(b.Text)))
		}
		v, trap := arith.Two(signs[i.A-1], a, b)
		x.on(trap)
		f.push(v)
	case api.OpOne:
		v, trap := arith.One(signs[i.A-1], f.pop())
		x.on(trap)
		f.push(v)
	case api.OpCall:
		c := x.m.Codes[i.A]
		args := make([]api.Value, len(c.Params))
		for k := range args {
			args[len(args)-1-k] = f.pop()
		}
		if v := x.run(c, args); c.Result != api.TypeNone {
			f.push(v)
		}
	case api.OpUnless:
		if f.pop().Num != 1 {
			f.next = int(i.A)
		}
	case api.OpJump:
		f.next = int(i.A)
	case api.OpDrop:
		f.pop()
	default:
		x.store(f, i)
	}
}

// store is what has to do with the store, and len.
func (x *machine) store(f *frame, i api.Instr) {
	a := f.pop()
	switch i.Op {
	case api.OpLen:
		f.push(arith.Num(int64(len(a.Text))))
	case api.OpGet, api.OpHas:
		x.use(api.CostGet)
		value, is := x.j.Get(a.Text)
		if i.Op == api.OpHas {
			f.push(arith.Bool(is))
		} else {
			f.push(arith.Text(value))
		}
	case api.OpDel:
		x.use(api.CostPut)
		x.j.Del(a.Text)
	case api.OpPut:
		key := f.pop()
		x.use(meter.Put(len(key.Text), len(a.Text)))
		switch x.j.Put(key.Text, a.Text) {
		case api.ErrArg:
			x.on(api.TrapSize)
		case api.ErrQuota:
			x.on(api.TrapQuota)
		}
	}
}

// executed is the outcome of the function at a place of a module.
func executed(m api.Module, at int, args []api.Value, j *journal.Journal, limit int64, count map[api.Op]int) (o api.Outcome) {
	x := &machine{m: m, j: j, gas: meter.New(limit), count: count}
	mark := j.Mark()
	defer func() {
		caught := recover()
		if caught == nil {
			return
		}
		s, ok := caught.(stop)
		if !ok {
			panic(caught)
		}
		j.Undo(mark)
		o = api.Outcome{Trap: s.trap, Used: x.gas.Used}
	}()
	v := x.run(m.Codes[at], args)
	return api.Outcome{Value: v, Used: x.gas.Used}
}

// argsOf is random arguments that fit.
func argsOf(g *maker, params []api.Param) []api.Value {
	var l []api.Value
	for _, p := range params {
		switch p.Type {
		case api.TypeInt:
			l = append(l, arith.Num(pick[int64](g, 0, 1, -1, 2, 5, math.MaxInt64, math.MinInt64)))
		case api.TypeBool:
			l = append(l, arith.Bool(g.chance(2)))
		case api.TypeBytes:
			l = append(l, arith.Text(bytes.Repeat([]byte("k"), pick(g, 0, 1, 2, 63, 64, 65, 256))))
		}
	}
	return l
}

// sameOutcome reports whether two outcomes are equal.
func sameOutcome(a, b api.Outcome) bool {
	return a.Trap == b.Trap && a.Used == b.Used && arith.Same(a.Value, b.Value)
}

// stores are two journals with the same pairs, which leave only little room or much.
func stores(g *maker) (a, b *journal.Journal) {
	a, b = journal.New(nil), journal.New(nil)
	put := func(key string, length int) {
		value := bytes.Repeat([]byte("v"), length)
		a.Put([]byte(key), value)
		b.Put([]byte(key), value)
	}
	switch g.rand.Intn(3) {
	case 0:
		put("k", 5)
		put("a", 256)
	case 1:
		for _, key := range []string{"k1", "k2", "k3", "k4", "k5", "k6", "k7", "k"} {
			put(key, 256-len(key)-8)
		}
	}
	return a, b
}

// checkRun runs a function of a program as it is written, and as it is compiled.
func checkRun(t *testing.T, p api.Program, m api.Module, at int, g *maker, limit int64, count map[api.Op]int) api.Outcome {
	t.Helper()
	args := argsOf(g, p.Funcs[at].Params)
	j, k := stores(g)
	want := eval.Run(p, p.Funcs[at].Name, args, j, limit)
	got := executed(m, at, args, k, limit, count)
	if !sameOutcome(got, want) || fmt.Sprint(j.Pairs()) != fmt.Sprint(k.Pairs()) {
		t.Fatalf("%+v\nfunction %d, %v, limit %d: %+v, %v; want %+v, %v", p, at, args, limit, got, k.Pairs(), want, j.Pairs())
	}
	return got
}

// P12.2: what was compiled uses its gas where the source does, so that it comes to the same with whatever limit.
func TestRunsAreEqual(t *testing.T) {
	traps, count := map[api.Trap]int{}, map[api.Op]int{}
	for seed := range 500 {
		p, r := made(t, seed)
		m, e := Compile(p)
		if e != api.OK {
			t.Fatalf("%+v: %v", p, e)
		}
		g := &maker{rand: r}
		for at := range p.Funcs {
			o := checkRun(t, p, m, at, g, api.MaxGas, count)
			traps[o.Trap]++
			for _, limit := range []int64{o.Used - 1, o.Used, o.Used + 1, r.Int63n(o.Used + 1), r.Int63n(50)} {
				traps[checkRun(t, p, m, at, g, limit, count).Trap]++
			}
		}
	}
	for trap := api.TrapNone; trap <= api.TrapSize; trap++ {
		if traps[trap] < 50 {
			t.Errorf("only %d runs with trap %d", traps[trap], trap)
		}
	}
	for op := api.OpGas; op < api.OpReturn; op++ {
		if count[op] < 500 {
			t.Errorf("only %d times %s", count[op], ops[op-1])
		}
	}
}

// P12.2: each limit from nothing to more than enough.
func TestEachLimit(t *testing.T) {
	for seed := range 150 {
		p, r := made(t, 10000+seed)
		m, _ := Compile(p)
		for limit := range int64(60) {
			at := r.Intn(len(p.Funcs))
			checkRun(t, p, m, at, &maker{rand: r}, limit, map[api.Op]int{})
		}
	}
}
