package compile

import (
	"math/rand"
	"strconv"
	"testing"

	"covenant/api"
)

// deepest is how many levels the promises hold for.
const deepest = 1 << 16

// nests are ways in which a program goes a level deeper.
var nests = []struct {
	what string
	expr func(e api.Expr) api.Expr
	stmt func(s api.Stmt) api.Stmt
}{
	{what: "!", expr: func(e api.Expr) api.Expr { return two(api.ExprOne, "!", e) }},
	{what: "&& on the left", expr: func(e api.Expr) api.Expr { return two(api.ExprTwo, "&&", e, truth()) }},
	{what: "&& on the right", expr: func(e api.Expr) api.Expr { return two(api.ExprTwo, "&&", truth(), e) }},
	{what: "|| on the left", expr: func(e api.Expr) api.Expr { return two(api.ExprTwo, "||", e, truth()) }},
	{what: "|| on the right", expr: func(e api.Expr) api.Expr { return two(api.ExprTwo, "||", truth(), e) }},
	{what: "==", expr: func(e api.Expr) api.Expr { return two(api.ExprTwo, "==", truth(), e) }},
	{what: "a call", expr: func(e api.Expr) api.Expr { return two(api.ExprCall, "g", e) }},
	{what: "if", stmt: func(s api.Stmt) api.Stmt { return choice([]api.Stmt{s}, nil) }},
	{what: "else", stmt: func(s api.Stmt) api.Stmt { return choice(nil, []api.Stmt{s}) }},
	{what: "if behind an else that ends", stmt: func(s api.Stmt) api.Stmt { return choice([]api.Stmt{s}, []api.Stmt{leave()}) }},
	{what: "else behind a body that ends", stmt: func(s api.Stmt) api.Stmt { return choice([]api.Stmt{leave()}, []api.Stmt{s}) }},
}

func two(op api.ExprOp, sign string, kids ...api.Expr) api.Expr {
	return api.Expr{Op: op, Text: sign, Kids: kids}
}

func choice(body, other []api.Stmt) api.Stmt {
	return api.Stmt{Op: api.StmtIf, Exprs: []api.Expr{truth()}, Body: body, Else: other}
}

// nested is a program that goes so deep in one of the ways.
func nested(way, levels int) api.Program {
	e, s := truth(), leave()
	for range levels {
		if nests[way].expr != nil {
			e = nests[way].expr(e)
		} else {
			s = nests[way].stmt(s)
		}
	}
	f := api.Func{Name: "f", Body: []api.Stmt{{Op: api.StmtLet, Text: "x", Exprs: []api.Expr{e}}, s}}
	g := api.Func{Name: "g", Params: []api.Param{{Name: "b", Type: api.TypeBool}}, Result: api.TypeBool, Body: []api.Stmt{leave(name("b"))}}
	return program(f, g)
}

// P1, P12.1: programs that are as deep as they may be come to an end; those that have not too many instructions have the right ones.
func TestDeepPrograms(t *testing.T) {
	for way, n := range nests {
		for _, levels := range []int{0, 1, 2, 100, 1500} {
			checkRead(t, nested(way, levels))
		}
		for _, levels := range []int{20000, deepest} {
			checkTooMany(t, n.what+" "+strconv.Itoa(levels)+" levels deep", nested(way, levels))
		}
	}
}

// P1: fors as deep as names permit, with everything else within them.
func TestDeepLoops(t *testing.T) {
	s := choice([]api.Stmt{leave()}, []api.Stmt{del("k")})
	for i, x := range many(60) {
		s = loop(x, s, del(x))
		if i%2 == 0 {
			s = choice([]api.Stmt{s}, []api.Stmt{leave()})
		}
	}
	checkRead(t, program(api.Func{Name: "f", Body: []api.Stmt{s}}))
}

// P1: whatever bytes a source has, Build comes to an end, and with an error to no module.
func TestAnyBytes(t *testing.T) {
	r := rand.New(rand.NewSource(1))
	for range 3000 {
		src := make([]byte, r.Intn(60))
		r.Read(src)
		if r.Intn(2) == 0 {
			src = append([]byte(randomSource(r)), src...)
			r.Shuffle(r.Intn(1+len(src)), func(i, k int) { src[i], src[k] = src[k], src[i] })
		}
		if m, e, at := Build(src); e != api.OK && (m.Codes != nil || m.Texts != nil) || at < 0 || at > len(src) || e == api.OK && at != 0 {
			t.Fatalf("Build(%q): %+v, %v, %d", src, m, e, at)
		}
	}
}

// anyExpr is an expression whose parts may be wrong in every way.
func anyExpr(r *rand.Rand, levels int) api.Expr {
	e := api.Expr{Op: api.ExprOp(r.Intn(13) - 1), Num: r.Int63n(5) - 2, Text: odd[r.Intn(len(odd))], At: r.Int() - r.Int()}
	for range r.Intn(3) {
		if levels > 0 {
			e.Kids = append(e.Kids, anyExpr(r, levels-1))
		}
	}
	return e
}

func anyBlock(r *rand.Rand, levels int) []api.Stmt {
	var l []api.Stmt
	for range r.Intn(3) {
		s := api.Stmt{Op: api.StmtOp(r.Intn(11) - 1), Text: odd[r.Intn(len(odd))], At: r.Int() - r.Int()}
		for range r.Intn(3) {
			s.Exprs = append(s.Exprs, anyExpr(r, 2))
		}
		if levels > 0 {
			s.Body, s.Else = anyBlock(r, levels-1), anyBlock(r, levels-1)
		}
		l = append(l, s)
	}
	return l
}

// P1: programs of any parts.
func TestAnyPrograms(t *testing.T) {
	r := rand.New(rand.NewSource(2))
	right := 0
	for range 20000 {
		var p api.Program
		for range r.Intn(4) {
			f := api.Func{Name: odd[r.Intn(len(odd))], Result: api.Type(r.Intn(6) - 1), Body: anyBlock(r, 2), At: r.Int() - r.Int()}
			for range r.Intn(3) {
				f.Params = append(f.Params, api.Param{Name: odd[r.Intn(len(odd))], Type: api.Type(r.Intn(6) - 1)})
			}
			p.Funcs = append(p.Funcs, f)
		}
		if m, e := Compile(p); e != api.OK && (m.Codes != nil || m.Texts != nil) {
			t.Fatalf("%+v: %v, %+v", p, e, m)
		} else if e == api.OK {
			checkRead(t, p)
			right++
		}
	}
	if right < 500 {
		t.Errorf("only %d valid programs", right)
	}
}

// P1: each part of a valid program may be spoiled.
func TestSpoiledPrograms(t *testing.T) {
	for seed := range 2000 {
		p, r := made(t, 30000+seed)
		f := &p.Funcs[r.Intn(len(p.Funcs))]
		if len(f.Body) == 0 {
			continue
		}
		s := &f.Body[r.Intn(len(f.Body))]
		switch r.Intn(8) {
		case 0:
			s.Op = api.StmtOp(r.Intn(11) - 1)
		case 1:
			s.Exprs = append(s.Exprs, anyExpr(r, 1))
		case 2:
			s.Exprs = nil
		case 3:
			s.Text = odd[r.Intn(len(odd))]
		case 4:
			s.Body, s.Else = s.Else, s.Body
		case 5:
			f.Body = f.Body[:len(f.Body)-1]
		case 6:
			f.Result = api.Type(r.Intn(6) - 1)
		case 7:
			if len(s.Exprs) > 0 {
				s.Exprs[0] = anyExpr(r, 2)
			}
		}
		if m, e := Compile(p); e != api.OK && (m.Codes != nil || m.Texts != nil) {
			t.Fatalf("%+v: %v, %+v", p, e, m)
		} else if e == api.OK {
			checkRead(t, p)
		}
	}
}
