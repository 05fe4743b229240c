package compile

import (
	"math"
	"math/rand"
	"slices"
	"strings"
	"testing"

	"covenant/api"
	"covenant/types"
)

// local is a name in scope.
type local struct {
	name   string
	kind   api.Type
	counts bool // of a for, so that it is not set
}

// maker makes random valid programs, also such as no source has.
type maker struct {
	rand  *rand.Rand
	funcs []api.Func
	self  int
	scope []local
	left  int // names that the function may still declare
}

func pick[T any](g *maker, l ...T) T { return l[g.rand.Intn(len(l))] }

func (g *maker) chance(one int) bool { return g.rand.Intn(one) == 0 }

func (g *maker) kind() api.Type { return api.Type(1 + g.rand.Intn(3)) }

// odd are names that are like each other, like keywords, or not names at all in a source.
var odd = strings.Split("a,b,c,i,f,g,let,x1,,\x00,&&,é", ",")

// fresh is a name that is not in scope.
func (g *maker) fresh() string {
	s := pick(g, odd...)
	for slices.ContainsFunc(g.scope, func(l local) bool { return l.name == s }) {
		s += pick(g, "a", "b", "_")
	}
	return s
}

func (g *maker) declare(name string, kind api.Type, counts bool) {
	g.scope = append(g.scope, local{name, kind, counts})
	g.left--
}

// program is up to seven functions.
func (g *maker) program() api.Program {
	g.funcs = nil
	for _, i := range g.rand.Perm(len(odd))[:1+g.rand.Intn(7)] {
		f := api.Func{Name: odd[i], Result: api.Type(g.rand.Intn(4)), At: g.rand.Intn(100) - 50}
		g.scope = nil
		for range g.rand.Intn(4) {
			p := api.Param{Name: g.fresh(), Type: g.kind()}
			f.Params = append(f.Params, p)
			g.declare(p.Name, p.Type, false)
		}
		g.funcs = append(g.funcs, f)
	}
	for i := range g.funcs {
		g.self, g.scope, g.left = i, nil, 30
		for _, p := range g.funcs[i].Params {
			g.declare(p.Name, p.Type, false)
		}
		g.funcs[i].Body = g.block(4, 1+g.rand.Intn(6), g.funcs[i].Result != api.TypeNone)
	}
	return api.Program{Funcs: g.funcs}
}

// block is statements; if it must, it ends.
func (g *maker) block(levels, count int, must bool) []api.Stmt {
	outer := len(g.scope)
	var l []api.Stmt
	for range count {
		l = append(l, g.noisy(g.stmt(levels)))
	}
	if must {
		l = append(l, g.noisy(g.end(levels)))
	}
	g.scope = g.scope[:outer]
	return l
}

// noisy gives a statement an offset, and sometimes what its kind does not use.
func (g *maker) noisy(s api.Stmt) api.Stmt {
	s.At = g.rand.Intn(100) - 50
	if s.Text == "" && s.Op != api.StmtLet && s.Op != api.StmtSet && s.Op != api.StmtFor && g.chance(4) {
		s.Text = pick(g, odd...)
	}
	return s
}

// end is a statement that ends a block.
func (g *maker) end(levels int) api.Stmt {
	if levels > 0 && g.chance(4) {
		return api.Stmt{Op: api.StmtIf, Exprs: g.exprs(2, api.TypeBool), Body: g.block(levels-1, g.rand.Intn(2), true), Else: g.block(levels-1, g.rand.Intn(2), true)}
	}
	if r := g.funcs[g.self].Result; r != api.TypeNone {
		return api.Stmt{Op: api.StmtReturn, Exprs: g.exprs(3, r)}
	}
	return api.Stmt{Op: api.StmtReturn}
}

func (g *maker) stmt(levels int) api.Stmt {
	switch k := g.rand.Intn(18); {
	case k < 3 && g.left > 0:
		kind := g.kind()
		s := api.Stmt{Op: api.StmtLet, Exprs: g.exprs(3, kind), Text: g.fresh()}
		g.declare(s.Text, kind, false)
		return s
	case k < 6:
		if l, ok := g.local(func(l local) bool { return !l.counts }); ok {
			return api.Stmt{Op: api.StmtSet, Text: l.name, Exprs: g.exprs(3, l.kind)}
		}
	case k < 9 && levels > 0:
		return api.Stmt{Op: api.StmtIf, Exprs: g.exprs(3, api.TypeBool), Body: g.block(levels-1, g.rand.Intn(3), g.chance(3)), Else: g.block(levels-1, g.rand.Intn(3), g.chance(3))}
	case k < 12 && levels > 0 && g.left > 0:
		return g.loop(levels)
	case k < 14:
		f := g.callee()
		return api.Stmt{Op: api.StmtDo, Exprs: []api.Expr{g.call(f, 2)}}
	case k < 15:
		return api.Stmt{Op: api.StmtDel, Exprs: g.exprs(2, api.TypeBytes)}
	case k < 16 && g.chance(2):
		return g.end(0)
	}
	return api.Stmt{Op: api.StmtPut, Exprs: g.exprs(2, api.TypeBytes, api.TypeBytes)}
}

func (g *maker) loop(levels int) api.Stmt {
	s := api.Stmt{Op: api.StmtFor, Exprs: []api.Expr{num(0), num(g.rand.Int63n(4))}}
	if g.chance(4) {
		s.Exprs = g.exprs(2, api.TypeInt, api.TypeInt)
	}
	outer := len(g.scope)
	s.Text = g.fresh()
	g.declare(s.Text, api.TypeInt, true)
	s.Body = g.block(levels-1, g.rand.Intn(4), g.chance(6))
	g.scope = g.scope[:outer]
	return s
}

// local is one of the names in scope that are right.
func (g *maker) local(right func(l local) bool) (local, bool) {
	var l []local
	for _, n := range g.scope {
		if right(n) {
			l = append(l, n)
		}
	}
	if len(l) == 0 {
		return local{}, false
	}
	return pick(g, l...), true
}

// callee is mostly a function that follows, as others may come to no end.
func (g *maker) callee() api.Func {
	if later := g.funcs[g.self+1:]; len(later) > 0 && !g.chance(8) {
		return pick(g, later...)
	}
	return pick(g, g.funcs...)
}

func (g *maker) call(f api.Func, levels int) api.Expr {
	e := api.Expr{Op: api.ExprCall, Text: f.Name}
	for _, p := range f.Params {
		e.Kids = append(e.Kids, g.expr(levels-1, p.Type))
	}
	return e
}

func (g *maker) exprs(levels int, kinds ...api.Type) []api.Expr {
	var l []api.Expr
	for _, k := range kinds {
		l = append(l, g.expr(levels, k))
	}
	return l
}

// expr is an expression of a type, with an offset, and sometimes with what its kind does not use.
func (g *maker) expr(levels int, kind api.Type) api.Expr {
	e := g.leaf(kind)
	if levels > 0 && !g.chance(3) {
		e = g.inner(levels-1, kind)
	}
	e.At = g.rand.Intn(100) - 50
	if g.chance(4) && e.Op != api.ExprNum && e.Op != api.ExprBool {
		e.Num = g.rand.Int63n(3)
	}
	if e.Text == "" && e.Op != api.ExprName && e.Op != api.ExprText && e.Op != api.ExprCall && g.chance(4) {
		e.Text = pick(g, "&&", "||", "a", "")
	}
	return e
}

func (g *maker) inner(levels int, kind api.Type) api.Expr {
	if f := g.callee(); f.Result == kind && g.chance(3) {
		return g.call(f, levels)
	}
	one := func(op api.ExprOp, sign string, takes api.Type) api.Expr {
		return api.Expr{Op: op, Text: sign, Kids: g.exprs(levels, takes)}
	}
	two := func(takes api.Type, signs ...string) api.Expr {
		return api.Expr{Op: api.ExprTwo, Text: pick(g, signs...), Kids: g.exprs(levels, takes, takes)}
	}
	switch k := g.rand.Intn(6); {
	case kind == api.TypeInt && k == 0:
		return one(api.ExprOne, "-", api.TypeInt)
	case kind == api.TypeInt && k == 1:
		return one(api.ExprLen, "", api.TypeBytes)
	case kind == api.TypeInt:
		return two(api.TypeInt, "+", "-", "*", "+", "-", "/", "%")
	case kind == api.TypeBytes && k < 2:
		return one(api.ExprGet, "", api.TypeBytes)
	case kind == api.TypeBytes:
		return two(api.TypeBytes, "+")
	case k == 0:
		return one(api.ExprOne, "!", api.TypeBool)
	case k == 1:
		return one(api.ExprHas, "", api.TypeBytes)
	case k == 2:
		return two(g.kind(), "==", "!=")
	case k == 3:
		return two(api.TypeInt, "<", "<=", ">", ">=")
	}
	return two(api.TypeBool, "&&", "||")
}

func (g *maker) leaf(kind api.Type) api.Expr {
	if l, ok := g.local(func(l local) bool { return l.kind == kind }); ok && !g.chance(3) {
		return name(l.name)
	}
	switch kind {
	case api.TypeInt:
		return num(pick[int64](g, 0, 1, 1, 2, 3, 7, -1, math.MaxInt64, math.MinInt64))
	case api.TypeBool:
		return api.Expr{Op: api.ExprBool, Num: pick[int64](g, 0, 1, 0, 1, 2, -1)}
	}
	return textOf(pick(g, "", "a", "b", "ab", "k", "f", "\x00\xFF", strings.Repeat("x", 16), strings.Repeat("y", api.MaxText)))
}

// made is a random valid program.
func made(t *testing.T, seed int) (api.Program, *rand.Rand) {
	t.Helper()
	g := &maker{rand: rand.New(rand.NewSource(int64(seed)))}
	p := g.program()
	if e, at := types.Check(p); e != api.OK {
		t.Fatalf("seed %d: Check: %v, %d; %+v", seed, e, at, p)
	}
	return p, g.rand
}
