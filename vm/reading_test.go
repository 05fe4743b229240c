package vm

import (
	"maps"
	"math"
	"math/big"
	"slices"

	"covenant/api"
)

// A second reading of the document: functions call each other as Go's do, values are of Go's own kinds, so that one of the wrong type is found, and sums, stores and gas are its own.

// flag is a bool, by its Num.
type flag int64

func flagOf(is bool) flag {
	if is {
		return 1
	}
	return 0
}

// itemOf is a value of the second reading: *big.Int, flag or string.
func itemOf(v api.Value) any {
	switch v.Type {
	case api.TypeInt:
		return big.NewInt(v.Num)
	case api.TypeBool:
		return flag(v.Num)
	}
	return string(v.Text)
}

func valueOf(item any) api.Value {
	switch v := item.(type) {
	case *big.Int:
		return num(v.Int64())
	case flag:
		return api.Value{Type: api.TypeBool, Num: int64(v)}
	case string:
		return text(v)
	}
	return api.Value{}
}

// halt ends a run.
type halt struct{ trap api.Trap }

type reading struct {
	m      api.Module
	store  map[string]string
	left   int64
	frames int
	row    int
	count  map[api.Op]int
}

// pay uses gas.
func (r *reading) pay(n int) {
	if int64(n) > r.left {
		r.left = 0
		panic(halt{api.TrapGas})
	}
	r.left -= int64(n)
}

// tick is what there is to do ahead of each instruction.
func (r *reading) tick(i api.Instr) {
	r.count[i.Op]++
	if r.row++; i.Op == api.OpGas && i.A > 0 {
		r.row = 0
	}
	if r.row == 65536 {
		r.left = 0
		panic(halt{api.TrapGas})
	}
}

// activation is what one function has while it runs.
type activation struct {
	*reading
	c     api.Code
	at    int64
	slots map[int64]any
	stack []any
}

func (a *activation) push(item any) { a.stack = append(a.stack, item) }

func pop[T any](a *activation) T {
	last := len(a.stack) - 1
	item := a.stack[last].(T)
	a.stack = slices.Clone(a.stack[:last])
	return item
}

// call is what a function returns, or nil.
func (r *reading) call(at int64, args []any) any {
	if r.frames == 16 {
		panic(halt{api.TrapDepth})
	}
	r.frames++
	a := &activation{reading: r, c: r.m.Codes[at], slots: map[int64]any{}}
	for i, item := range args {
		a.slots[int64(i)] = item
	}
	for {
		i := a.c.Instrs[a.at]
		r.tick(i)
		a.at++
		if i.Op == api.OpReturn {
			r.frames--
			return a.returned()
		}
		a.do(i)
	}
}

// returned is the only item that is left, if there must be one.
func (a *activation) returned() any {
	if len(a.stack) != min(int(a.c.Result), 1) {
		panic("the stack of a function that returns")
	}
	if a.c.Result == api.TypeNone {
		return nil
	}
	if item := pop[any](a); valueOf(item).Type == a.c.Result {
		return item
	}
	panic("the type of what is returned")
}

func (a *activation) do(i api.Instr) {
	switch i.Op {
	case api.OpGas:
		a.pay(int(i.A))
	case api.OpNum:
		a.push(big.NewInt(i.A))
	case api.OpBool:
		a.push(flag(i.A))
	case api.OpText:
		a.push(string(a.m.Texts[i.A]))
	case api.OpLoad:
		a.push(a.slots[i.A])
	case api.OpStore:
		a.slots[i.A] = pop[any](a)
	case api.OpDrop:
		pop[any](a)
	case api.OpJump:
		a.at = i.A
	case api.OpUnless:
		if pop[flag](a) != 1 {
			a.at = i.A
		}
	case api.OpCall:
		args := make([]any, len(a.m.Codes[i.A].Params))
		for k := range args {
			args[len(args)-1-k] = pop[any](a)
		}
		if item := a.call(i.A, args); item != nil {
			a.push(item)
		}
	case api.OpTwo:
		second, first := pop[any](a), pop[any](a)
		a.push(a.two(i.A, first, second))
	case api.OpOne:
		if i.A == 12 {
			a.push(flagOf(pop[flag](a) != 1))
		} else {
			a.push(inside(new(big.Int).Neg(pop[*big.Int](a))))
		}
	default:
		a.pairs(i.Op)
	}
}

// pairs is what has to do with bytes and the store.
func (a *activation) pairs(op api.Op) {
	s := pop[string](a)
	switch op {
	case api.OpLen:
		a.push(big.NewInt(int64(len(s))))
	case api.OpGet:
		a.pay(2)
		a.push(a.store[s])
	case api.OpHas:
		a.pay(2)
		_, is := a.store[s]
		a.push(flagOf(is))
	case api.OpDel:
		a.pay(4)
		delete(a.store, s)
	case api.OpPut:
		a.write(pop[string](a), s)
	}
}

func (r *reading) write(key, value string) {
	r.pay(4 + (len(key)+len(value))/16)
	if len(key) > 64 || len(value) > 256 {
		panic(halt{api.TrapSize})
	}
	r.store[key] = value
	size := 0
	for k, v := range r.store {
		size += 8 + len(k) + len(v)
	}
	if size > 2048 {
		panic(halt{api.TrapQuota})
	}
}

// inside is a number of 64 bits.
func inside(n *big.Int) *big.Int {
	if !n.IsInt64() {
		panic(halt{api.TrapRange})
	}
	return n
}

func (r *reading) two(sign int64, first, second any) any {
	switch a := first.(type) {
	case string:
		b := second.(string)
		if sign != 1 {
			return flagOf((a == b) == (sign == 10))
		}
		r.pay((len(a) + len(b)) / 16)
		if len(a)+len(b) > 256 {
			panic(halt{api.TrapSize})
		}
		return a + b
	case flag:
		return flagOf(((a == 1) == (second.(flag) == 1)) == (sign == 10))
	}
	a, b := first.(*big.Int), second.(*big.Int)
	order := a.Cmp(b)
	switch sign {
	case 1:
		return inside(new(big.Int).Add(a, b))
	case 2:
		return inside(new(big.Int).Sub(a, b))
	case 3:
		return inside(new(big.Int).Mul(a, b))
	case 4, 5:
		return divided(sign, a, b)
	}
	return flagOf([]bool{order < 0, order <= 0, order > 0, order >= 0, order == 0, order != 0}[sign-6])
}

func divided(sign int64, a, b *big.Int) *big.Int {
	if b.Sign() == 0 {
		panic(halt{api.TrapDiv})
	}
	quotient, rest := new(big.Int).QuoRem(a, b, new(big.Int))
	inside(quotient)
	if sign == 5 {
		return rest
	}
	return quotient
}

// wanted is the outcome of the function at a place of a module that is safe, and what is stored afterwards.
func wanted(m api.Module, at int, args []api.Value, stored map[string]string, limit int64, count map[api.Op]int) (o api.Outcome, after map[string]string) {
	most := min(max(limit, 0), 100000)
	r := &reading{m: m, store: maps.Clone(stored), left: most, count: count}
	defer func() {
		caught := recover()
		if caught == nil {
			return
		}
		h, ok := caught.(halt)
		if !ok {
			panic(caught)
		}
		o, after = traps(h.trap, most-r.left), stored
	}()
	var items []any
	for _, v := range args {
		items = append(items, itemOf(v))
	}
	item := r.call(int64(at), items)
	return ends(valueOf(item), most-r.left), r.store
}

// pairsIn is a map as pairs, in the order of the keys.
func pairsIn(stored map[string]string) []api.Pair {
	var l []api.Pair
	for _, k := range slices.Sorted(maps.Keys(stored)) {
		l = append(l, api.Pair{Key: []byte(k), Value: []byte(stored[k])})
	}
	return l
}

// edges are numbers near which sums do not fit in 64 bits, and others.
func edges() []int64 {
	return []int64{0, 1, 1, 2, 3, -1, 7, 16, math.MaxInt64, math.MaxInt64 - 1, math.MinInt64, 1 << 62}
}
