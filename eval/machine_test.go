package eval

import (
	"maps"
	"math"
	"math/big"
	"slices"
	"strings"

	"covenant/api"
)

// The machine runs programs in another way: as instructions in a row, on a stack, with numbered slots for names, and with sums, stores and gas of its own.

// cell is a value of the machine.
type cell struct {
	kind api.Type
	num  int64
	text string
}

func numCell(n int64) cell { return cell{kind: api.TypeInt, num: n} }

func boolCell(is bool) cell {
	if is {
		return cell{kind: api.TypeBool, num: 1}
	}
	return cell{kind: api.TypeBool}
}

func textCell(s string) cell { return cell{kind: api.TypeBytes, text: s} }

// instr is an instruction; which of the others it uses hangs on op.
type instr struct {
	op   string
	to   int // a slot, a place, or gas
	cell cell
	name string // a sign or a function
	kids int
}

// translator makes the instructions of a function.
type translator struct {
	code  []instr
	names []string // those in scope, the innermost last
	slots []int    // of each of them
	next  int
}

func (c *translator) put(i instr) int {
	c.code = append(c.code, i)
	return len(c.code) - 1
}

// here makes the jump at a place go to the next instruction.
func (c *translator) here(place int) { c.code[place].to = len(c.code) }

func (c *translator) declare(name string) int {
	c.names, c.slots = append(c.names, name), append(c.slots, c.next)
	c.next++
	return c.next - 1
}

func (c *translator) slot(name string) int {
	return c.slots[slices.Index(c.names, name)]
}

func (c *translator) block(l []api.Stmt) {
	outer := len(c.names)
	for _, s := range l {
		c.stmt(s)
	}
	c.names, c.slots = c.names[:outer], c.slots[:outer]
}

func (c *translator) stmt(s api.Stmt) {
	c.put(instr{op: "gas", to: 1})
	for _, e := range s.Exprs {
		c.expr(e)
	}
	switch s.Op {
	case api.StmtLet:
		c.put(instr{op: "store", to: c.declare(s.Text)})
	case api.StmtSet:
		c.put(instr{op: "store", to: c.slot(s.Text)})
	case api.StmtIf:
		unless := c.put(instr{op: "unless"})
		c.block(s.Body)
		jump := c.put(instr{op: "jump"})
		c.here(unless)
		c.block(s.Else)
		c.here(jump)
	case api.StmtFor:
		c.loop(s)
	case api.StmtReturn:
		c.put(instr{op: "return", kids: len(s.Exprs)})
	case api.StmtPut:
		c.put(instr{op: "put"})
	case api.StmtDel:
		c.put(instr{op: "del"})
	case api.StmtDo:
		c.put(instr{op: "drop"})
	}
}

func (c *translator) loop(s api.Stmt) {
	outer := len(c.names)
	end, name := c.declare(" end"), c.declare(s.Text)
	c.put(instr{op: "store", to: end})
	c.put(instr{op: "store", to: name})
	c.put(instr{op: "load", to: name})
	start := len(c.code) - 1
	c.put(instr{op: "load", to: end})
	c.put(instr{op: "two", name: "<"})
	unless := c.put(instr{op: "unless"})
	c.put(instr{op: "gas", to: 1})
	c.block(s.Body)
	c.put(instr{op: "load", to: name})
	c.put(instr{op: "push", cell: numCell(1)})
	c.put(instr{op: "two", name: "+"})
	c.put(instr{op: "store", to: name})
	c.put(instr{op: "jump", to: start})
	c.here(unless)
	c.names, c.slots = c.names[:outer], c.slots[:outer]
}

func (c *translator) expr(e api.Expr) {
	c.put(instr{op: "gas", to: 1})
	if e.Op == api.ExprTwo && (e.Text == "&&" || e.Text == "||") {
		c.lazy(e)
		return
	}
	for _, kid := range e.Kids {
		c.expr(kid)
	}
	switch e.Op {
	case api.ExprNum:
		c.put(instr{op: "push", cell: numCell(e.Num)})
	case api.ExprBool:
		c.put(instr{op: "push", cell: boolCell(e.Num == 1)})
	case api.ExprText:
		c.put(instr{op: "push", cell: textCell(e.Text)})
	case api.ExprName:
		c.put(instr{op: "load", to: c.slot(e.Text)})
	case api.ExprCall:
		c.put(instr{op: "call", name: e.Text, kids: len(e.Kids)})
	case api.ExprTwo:
		c.put(instr{op: "two", name: e.Text})
	case api.ExprOne:
		c.put(instr{op: "one", name: e.Text})
	case api.ExprGet, api.ExprHas:
		c.put(instr{op: "gas", to: 2})
		c.put(instr{op: map[api.ExprOp]string{api.ExprGet: "get", api.ExprHas: "has"}[e.Op]})
	case api.ExprLen:
		c.put(instr{op: "len"})
	}
}

// lazy translates && and ||, the second operand of which may be passed over.
func (c *translator) lazy(e api.Expr) {
	c.expr(e.Kids[0])
	if e.Text == "||" {
		c.put(instr{op: "one", name: "!"})
	}
	unless := c.put(instr{op: "unless"})
	c.expr(e.Kids[1])
	jump := c.put(instr{op: "jump"})
	c.here(unless)
	c.put(instr{op: "push", cell: boolCell(e.Text == "||")})
	c.here(jump)
}

type frame struct {
	code  []instr
	next  int
	slots map[int]cell
	stack []cell
}

func (f *frame) push(c cell) { f.stack = append(f.stack, c) }

func (f *frame) pop() cell {
	c := f.stack[len(f.stack)-1]
	f.stack = f.stack[:len(f.stack)-1]
	return c
}

type machine struct {
	code        map[string][]instr
	store       map[string]string
	frames      []*frame
	used, limit int64
	result      cell
}

// translated is a machine for a program, with what is stored in it.
func translated(p api.Program, stored []api.Pair) *machine {
	m := &machine{code: map[string][]instr{}, store: map[string]string{}}
	for _, f := range p.Funcs {
		c := &translator{}
		for _, p := range f.Params {
			c.declare(p.Name)
		}
		c.block(f.Body)
		c.put(instr{op: "return"})
		m.code[f.Name] = c.code
	}
	for _, p := range stored {
		m.store[string(p.Key)] = string(p.Value)
	}
	return m
}

// run returns what a call of f comes to. The store is then what it left.
func (m *machine) run(args []api.Value, limit int64) api.Outcome {
	m.used, m.limit = 0, min(max(limit, 0), api.MaxGas)
	before := maps.Clone(m.store)
	var cells []cell
	for _, v := range args {
		cells = append(cells, cell{v.Type, v.Num, string(v.Text)})
	}
	trap := m.call("f", cells)
	for trap == api.TrapNone && len(m.frames) > 0 {
		trap = m.step(m.frames[len(m.frames)-1])
	}
	if trap != api.TrapNone {
		m.store, m.frames = before, nil
		return traps(trap, m.used)
	}
	return ends(api.Value{Type: m.result.kind, Num: m.result.num, Text: []byte(m.result.text)}, m.used)
}

func (m *machine) use(n int) api.Trap {
	m.used += int64(n)
	if m.used > m.limit {
		m.used = m.limit
		return api.TrapGas
	}
	return api.TrapNone
}

func (m *machine) call(name string, args []cell) api.Trap {
	if len(m.frames) == 16 {
		return api.TrapDepth
	}
	f := &frame{code: m.code[name], slots: map[int]cell{}}
	for i, c := range args {
		f.slots[i] = c
	}
	m.frames = append(m.frames, f)
	return api.TrapNone
}

func (m *machine) step(f *frame) api.Trap {
	i := f.code[f.next]
	f.next++
	switch i.op {
	case "gas":
		return m.use(i.to)
	case "push":
		f.push(i.cell)
	case "load":
		f.push(f.slots[i.to])
	case "store":
		f.slots[i.to] = f.pop()
	case "drop":
		f.pop()
	case "jump":
		f.next = i.to
	case "unless":
		if f.pop().num != 1 {
			f.next = i.to
		}
	case "call":
		args := slices.Clone(f.stack[len(f.stack)-i.kids:])
		f.stack = f.stack[:len(f.stack)-i.kids]
		return m.call(i.name, args)
	case "return":
		m.leave(f, i.kids)
	default:
		return m.operate(f, i)
	}
	return api.TrapNone
}

// leave ends a function with the value on its stack, if there is one.
func (m *machine) leave(f *frame, values int) {
	m.result = cell{}
	if values == 1 {
		m.result = f.pop()
	}
	m.frames = m.frames[:len(m.frames)-1]
	if len(m.frames) > 0 {
		m.frames[len(m.frames)-1].push(m.result)
	}
}

func (m *machine) operate(f *frame, i instr) api.Trap {
	b := f.pop()
	switch i.op {
	case "two":
		a := f.pop()
		if a.kind == api.TypeBytes && i.name == "+" {
			if trap := m.use((len(a.text) + len(b.text)) / 16); trap != api.TrapNone {
				return trap
			}
		}
		c, trap := combined(i.name, a, b)
		f.push(c)
		return trap
	case "one":
		if i.name == "!" {
			f.push(boolCell(b.num != 1))
			return api.TrapNone
		}
		c, trap := counted(new(big.Int).Neg(big.NewInt(b.num)))
		f.push(c)
		return trap
	case "get":
		f.push(textCell(m.store[b.text]))
	case "has":
		_, is := m.store[b.text]
		f.push(boolCell(is))
	case "len":
		f.push(numCell(int64(len(b.text))))
	case "put":
		return m.write(f.pop().text, b.text)
	case "del":
		delete(m.store, b.text)
		return m.use(4)
	}
	return api.TrapNone
}

func (m *machine) write(key, value string) api.Trap {
	if trap := m.use(4 + (len(key)+len(value))/16); trap != api.TrapNone {
		return trap
	}
	if len(key) > 64 || len(value) > 256 {
		return api.TrapSize
	}
	m.store[key] = value
	size := 0
	for k, v := range m.store {
		size += 8 + len(k) + len(v)
	}
	if size > 2048 {
		return api.TrapQuota
	}
	return api.TrapNone
}

func counted(n *big.Int) (cell, api.Trap) {
	if !n.IsInt64() {
		return cell{}, api.TrapRange
	}
	return numCell(n.Int64()), api.TrapNone
}

func combined(sign string, a, b cell) (cell, api.Trap) {
	switch sign {
	case "==", "!=":
		alike := a.text == b.text && a.num == b.num
		if a.kind == api.TypeBool {
			alike = (a.num == 1) == (b.num == 1)
		}
		return boolCell(alike == (sign == "==")), api.TrapNone
	case "<", "<=", ">", ">=":
		return boolCell(a.num < b.num && sign[0] == '<' || a.num > b.num && sign[0] == '>' || a.num == b.num && len(sign) == 2), api.TrapNone
	}
	if a.kind == api.TypeBytes {
		if len(a.text)+len(b.text) > 256 {
			return cell{}, api.TrapSize
		}
		return textCell(a.text + b.text), api.TrapNone
	}
	if strings.Contains("/%", sign) && b.num == 0 {
		return cell{}, api.TrapDiv
	}
	if strings.Contains("/%", sign) && a.num == math.MinInt64 && b.num == -1 {
		return cell{}, api.TrapRange
	}
	n, x, y := new(big.Int), big.NewInt(a.num), big.NewInt(b.num)
	switch sign {
	case "+":
		n.Add(x, y)
	case "-":
		n.Sub(x, y)
	case "*":
		n.Mul(x, y)
	case "/":
		n.Quo(x, y)
	case "%":
		n.Rem(x, y)
	}
	return counted(n)
}

// pairs is what is stored, in order.
func (m *machine) pairs() []api.Pair {
	var l []api.Pair
	for _, k := range slices.Sorted(maps.Keys(m.store)) {
		l = append(l, api.Pair{Key: []byte(k), Value: []byte(m.store[k])})
	}
	return l
}
