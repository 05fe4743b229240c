package types

import (
	"math/rand"
	"reflect"
	"slices"
	"strconv"
	"strings"
	"testing"

	"covenant/api"
	"covenant/syntax"
)

// maker makes random valid programs: it knows the type of all that it puts in a place.
type maker struct {
	rand  *rand.Rand
	funcs []api.Func // without their bodies
	self  api.Func
}

var valueTypes = []api.Type{api.TypeInt, api.TypeBool, api.TypeBytes}

var pool = strings.Fields("a b c d e f g")

func (m *maker) typ() api.Type { return valueTypes[m.rand.Intn(len(valueTypes))] }

// head makes a function without a body.
func (m *maker) head(name string) api.Func {
	f := api.Func{Name: name, Result: api.Type(m.rand.Intn(4))}
	for _, i := range m.rand.Perm(len(pool))[:m.rand.Intn(4)] {
		f.Params = append(f.Params, api.Param{Name: pool[i], Type: m.typ()})
	}
	return f
}

func (m *maker) function(f api.Func) api.Func {
	m.self = f
	names := map[string]local{}
	for _, p := range f.Params {
		names[p.Name] = local{kind: p.Type}
	}
	f.Body = m.block(3, names, f.Result != api.TypeNone)
	return f
}

func program(r *rand.Rand) api.Program {
	m := &maker{rand: r}
	for _, i := range r.Perm(len(pool))[:r.Intn(4)] {
		m.funcs = append(m.funcs, m.head(pool[i]))
	}
	var p api.Program
	for _, f := range m.funcs {
		p.Funcs = append(p.Funcs, m.function(f))
	}
	return p
}

// block makes statements; if it must, it ends.
func (m *maker) block(levels int, around map[string]local, must bool) []api.Stmt {
	names := map[string]local{}
	for k, v := range around {
		names[k] = v
	}
	var l []api.Stmt
	for range m.rand.Intn(4) {
		l = append(l, m.stmt(levels, names))
	}
	switch {
	case !must:
	case levels > 0 && m.rand.Intn(3) == 0:
		l = append(l, api.Stmt{Op: api.StmtIf, Exprs: m.exprs(names, api.TypeBool), Body: m.block(levels-1, names, true), Else: m.block(levels-1, names, true)})
	default:
		l = append(l, m.end(names))
	}
	return l
}

func (m *maker) end(names map[string]local) api.Stmt {
	if m.self.Result == api.TypeNone {
		return api.Stmt{Op: api.StmtReturn}
	}
	return api.Stmt{Op: api.StmtReturn, Exprs: m.exprs(names, m.self.Result)}
}

// choose returns a name of the pool that is right, or "" if none is.
func (m *maker) choose(right func(name string) bool) string {
	for _, i := range m.rand.Perm(len(pool)) {
		if right(pool[i]) {
			return pool[i]
		}
	}
	return ""
}

func (m *maker) free(names map[string]local) string {
	return m.choose(func(s string) bool { _, ok := names[s]; return !ok })
}

func (m *maker) stmt(levels int, names map[string]local) api.Stmt {
	op := api.StmtOp(1 + m.rand.Intn(8))
	text := ""
	switch op {
	case api.StmtLet, api.StmtFor:
		text = m.free(names)
	case api.StmtSet:
		text = m.choose(func(s string) bool { l, ok := names[s]; return ok && !l.loop })
	}
	if named := op == api.StmtLet || op == api.StmtFor || op == api.StmtSet; named && text == "" || levels == 0 && (op == api.StmtFor || op == api.StmtIf) {
		op, text = api.StmtDel, ""
	}
	switch op {
	case api.StmtLet:
		t := m.typ()
		s := api.Stmt{Op: op, Text: text, Exprs: m.exprs(names, t)}
		names[text] = local{kind: t}
		return s
	case api.StmtSet:
		return api.Stmt{Op: op, Text: text, Exprs: m.exprs(names, names[text].kind)}
	case api.StmtIf:
		return api.Stmt{Op: op, Exprs: m.exprs(names, api.TypeBool), Body: m.block(levels-1, names, false), Else: m.block(levels-1, names, false)}
	case api.StmtFor:
		s := api.Stmt{Op: op, Text: text, Exprs: m.exprs(names, api.TypeInt, api.TypeInt)}
		names[text] = local{kind: api.TypeInt, loop: true}
		s.Body = m.block(levels-1, names, false)
		delete(names, text)
		return s
	case api.StmtReturn:
		return m.end(names)
	case api.StmtPut:
		return api.Stmt{Op: op, Exprs: m.exprs(names, api.TypeBytes, api.TypeBytes)}
	case api.StmtDel:
		return api.Stmt{Op: op, Exprs: m.exprs(names, api.TypeBytes)}
	}
	return api.Stmt{Op: op, Exprs: []api.Expr{m.call(m.funcs[m.rand.Intn(len(m.funcs))], 3, names)}}
}

// exprs makes an expression of each of these types.
func (m *maker) exprs(names map[string]local, kinds ...api.Type) []api.Expr {
	var l []api.Expr
	for _, t := range kinds {
		l = append(l, m.expr(t, m.rand.Intn(4), names))
	}
	return l
}

func (m *maker) call(f api.Func, levels int, names map[string]local) api.Expr {
	e := api.Expr{Op: api.ExprCall, Text: f.Name}
	for _, p := range f.Params {
		e.Kids = append(e.Kids, m.expr(p.Type, levels-1, names))
	}
	return e
}

func (m *maker) expr(t api.Type, levels int, names map[string]local) api.Expr {
	if levels <= 0 {
		return m.leaf(t, names)
	}
	switch m.rand.Intn(4) {
	case 0:
		for _, i := range m.rand.Perm(len(m.funcs)) {
			if m.funcs[i].Result == t {
				return m.call(m.funcs[i], levels, names)
			}
		}
	case 1:
		forms := map[api.Type][]api.Expr{
			api.TypeInt:   {{Op: api.ExprOne, Text: "-"}, {Op: api.ExprLen}},
			api.TypeBool:  {{Op: api.ExprOne, Text: "!"}, {Op: api.ExprHas}},
			api.TypeBytes: {{Op: api.ExprGet}, {Op: api.ExprGet}},
		}[t]
		e, takes := forms[m.rand.Intn(2)], t
		if e.Op != api.ExprOne {
			takes = api.TypeBytes
		}
		e.Kids = []api.Expr{m.expr(takes, levels-1, names)}
		return e
	case 2:
		return m.leaf(t, names)
	}
	return m.two(t, levels, names)
}

// two makes an expression of a type by a row of the table of signs.
func (m *maker) two(t api.Type, levels int, names map[string]local) api.Expr {
	var fit [][]string
	for sign, rows := range signs {
		for _, row := range rows {
			if f := append(strings.Fields(row), sign); typeNamed(f[2]) == t {
				fit = append(fit, f)
			}
		}
	}
	slices.SortFunc(fit, slices.Compare[[]string])
	f := fit[m.rand.Intn(len(fit))]
	return api.Expr{Op: api.ExprTwo, Text: f[3], Kids: []api.Expr{m.expr(typeNamed(f[0]), levels-1, names), m.expr(typeNamed(f[1]), levels-1, names)}}
}

func typeNamed(s string) api.Type {
	return api.Type(slices.Index([]string{"none", "int", "bool", "bytes"}, s))
}

func (m *maker) leaf(t api.Type, names map[string]local) api.Expr {
	s := m.choose(func(s string) bool { return names[s].kind == t })
	if s != "" && m.rand.Intn(3) > 0 {
		return api.Expr{Op: api.ExprName, Text: s}
	}
	switch t {
	case api.TypeInt:
		return api.Expr{Op: api.ExprNum, Num: m.rand.Int63n(9)}
	case api.TypeBool:
		return api.Expr{Op: api.ExprBool, Num: m.rand.Int63n(2)}
	}
	return api.Expr{Op: api.ExprText, Text: "abc"[:m.rand.Intn(4)]}
}

// placed is a copy of a program, all of it, with offsets that next returns.
func placed(p api.Program, next func() int) api.Program {
	funcs := slices.Clone(p.Funcs)
	for i := range funcs {
		funcs[i].At = next()
		funcs[i].Params = slices.Clone(funcs[i].Params)
		funcs[i].Body = stmtsPlaced(funcs[i].Body, next)
	}
	return api.Program{Funcs: funcs}
}

func stmtsPlaced(l []api.Stmt, next func() int) []api.Stmt {
	l = slices.Clone(l)
	for i := range l {
		l[i].At = next()
		l[i].Exprs = exprsPlaced(l[i].Exprs, next)
		l[i].Body = stmtsPlaced(l[i].Body, next)
		l[i].Else = stmtsPlaced(l[i].Else, next)
	}
	return l
}

func exprsPlaced(l []api.Expr, next func() int) []api.Expr {
	l = slices.Clone(l)
	for i := range l {
		l[i].At = next()
		l[i].Kids = exprsPlaced(l[i].Kids, next)
	}
	return l
}

// counted is a copy in which no two things have the same offset, so that an offset tells which one it is.
func counted(p api.Program) api.Program {
	n := 0
	return placed(p, func() int { n++; return n })
}

// parts are the things of a program that a test changes.
type parts struct {
	exprs []*api.Expr
	stmts []*api.Stmt
	lists []*[]api.Stmt
}

func (c *parts) addExprs(l []api.Expr) {
	for i := range l {
		c.exprs = append(c.exprs, &l[i])
		c.addExprs(l[i].Kids)
	}
}

func (c *parts) addBlock(l *[]api.Stmt) {
	c.lists = append(c.lists, l)
	for i := range *l {
		s := &(*l)[i]
		c.stmts = append(c.stmts, s)
		c.addExprs(s.Exprs)
		c.addBlock(&s.Body)
		c.addBlock(&s.Else)
	}
}

func partsOfProgram(p api.Program) parts {
	var c parts
	for i := range p.Funcs {
		c.addBlock(&p.Funcs[i].Body)
	}
	return c
}

func pick[T any](r *rand.Rand, l []T) T { return l[r.Intn(len(l))] }

var oddSigns = strings.Fields("+ - * / % == != < <= > >= && || ! = &")

func spoilExpr(r *rand.Rand, c, others parts) {
	e, other := pick(r, c.exprs), *pick(r, others.exprs)
	switch r.Intn(8) {
	case 0:
		*e = other
	case 1:
		e.Text = pick(r, pool)
	case 2:
		e.Text = pick(r, oddSigns)
	case 3:
		e.Op = api.ExprOp(r.Intn(12))
	case 4:
		e.Kids = append(slices.Clone(e.Kids), other)
	case 5:
		e.Kids = e.Kids[:r.Intn(len(e.Kids)+1)]
	case 6:
		*e = api.Expr{Op: api.ExprOp(r.Intn(3) + 1)}
	case 7:
		*e = api.Expr{Op: api.ExprCall, Text: pick(r, pool)}
	}
}

func spoilStmt(r *rand.Rand, c, others parts) {
	s, other := pick(r, c.stmts), *pick(r, others.stmts)
	switch r.Intn(7) {
	case 0:
		*s = other
	case 1:
		s.Text = pick(r, pool)
	case 2:
		s.Op = api.StmtOp(r.Intn(10))
	case 3:
		s.Exprs = s.Exprs[:r.Intn(len(s.Exprs)+1)]
	case 4:
		s.Exprs = append(slices.Clone(s.Exprs), *pick(r, others.exprs))
	case 5:
		s.Body, s.Else = s.Else, s.Body
	case 6:
		s.Else = append(slices.Clone(s.Else), other)
	}
}

func spoilBlock(r *rand.Rand, c, others parts) {
	l := pick(r, c.lists)
	i := r.Intn(len(*l) + 1)
	switch r.Intn(4) {
	case 0:
		if i < len(*l) {
			*l = slices.Delete(slices.Clone(*l), i, i+1)
		}
	case 1:
		*l = slices.Insert(slices.Clone(*l), i, *pick(r, others.stmts))
	case 2:
		*l = (*l)[:i]
	case 3:
		for n := range 57 + r.Intn(9) {
			*l = append(*l, api.Stmt{Op: api.StmtLet, Text: "x" + strconv.Itoa(n), Exprs: []api.Expr{{Op: api.ExprNum}}})
		}
	}
}

func spoilFunc(r *rand.Rand, p api.Program) {
	f := &p.Funcs[r.Intn(len(p.Funcs))]
	switch r.Intn(5) {
	case 0:
		f.Name = pick(r, pool)
	case 1:
		f.Result = api.Type(r.Intn(5))
	case 2:
		f.Params = append(f.Params, api.Param{Name: pick(r, pool), Type: api.Type(r.Intn(5))})
	case 3:
		f.Params = f.Params[:r.Intn(len(f.Params)+1)]
	case 4:
		if len(f.Params) > 0 {
			f.Params[r.Intn(len(f.Params))] = api.Param{Name: pick(r, pool), Type: api.Type(r.Intn(5))}
		}
	}
}

// spoiled is a copy of a program in which a few things are others.
func spoiled(r *rand.Rand, p api.Program) api.Program {
	p = counted(p)
	for range 1 + r.Intn(2) {
		// What is put in comes from a copy, so that nothing is within itself.
		c, others := partsOfProgram(p), partsOfProgram(counted(p))
		switch k := r.Intn(8); {
		case k < 4 && len(c.exprs) > 0:
			spoilExpr(r, c, others)
		case k < 6 && len(c.exprs) > 0:
			spoilStmt(r, c, others)
		case k < 7 && len(c.stmts) > 0:
			spoilBlock(r, c, others)
		case len(p.Funcs) > 0:
			spoilFunc(r, p)
		}
		p = counted(p)
	}
	return p
}

// verdict is what Check must return.
type verdict struct {
	err api.Errno
	at  int
}

// step is a block around a place, and the statement of it that the place is in.
type step struct {
	block []api.Stmt
	index int
	loop  *api.Stmt // if the block is that of a for
}

// oracle finds the verdict in another way: what is in scope is looked up, for each place, along the way that leads to it, and the first rule that does not hold ends everything.
type oracle struct {
	p api.Program
	f api.Func
}

func need(ok bool, err api.Errno, at int) {
	if !ok {
		panic(verdict{err, at})
	}
}

func expected(p api.Program) (v verdict) {
	defer func() {
		if caught := recover(); caught != nil {
			v = caught.(verdict)
		}
	}()
	need(len(p.Funcs) <= 64, api.ErrTooMany, 0)
	for i, f := range p.Funcs {
		need(!slices.ContainsFunc(p.Funcs[:i], func(g api.Func) bool { return g.Name == f.Name }), api.ErrTwice, f.At)
	}
	for _, f := range p.Funcs {
		o := &oracle{p, f}
		o.function()
	}
	return verdict{}
}

func (o *oracle) function() {
	f := o.f
	for i, p := range f.Params {
		need(!slices.ContainsFunc(f.Params[:i], func(q api.Param) bool { return q.Name == p.Name }), api.ErrTwice, f.At)
		need(slices.Contains(valueTypes, p.Type), api.ErrType, f.At)
	}
	need(f.Result == api.TypeNone || slices.Contains(valueTypes, f.Result), api.ErrType, f.At)
	n := len(f.Params)
	for _, s := range partsOfProgram(api.Program{Funcs: []api.Func{f}}).stmts {
		if s.Op == api.StmtLet || s.Op == api.StmtFor {
			n++
		}
	}
	need(len(f.Params) <= 16 && n <= 64, api.ErrTooMany, f.At)
	o.block(f.Body, nil, nil)
	need(f.Result == api.TypeNone || blockEnds(f.Body), api.ErrEnds, f.At)
}

func blockEnds(l []api.Stmt) bool {
	for len(l) > 0 {
		last := l[len(l)-1]
		if last.Op != api.StmtIf {
			return last.Op == api.StmtReturn
		}
		if !blockEnds(last.Body) {
			return false
		}
		l = last.Else
	}
	return false
}

func (o *oracle) block(l []api.Stmt, loop *api.Stmt, way []step) {
	for i := range l {
		o.stmt(l[i], append(slices.Clone(way), step{l, i, loop}))
	}
}

// lookup returns the type of a name in scope, or none, and whether it is that of a for.
func (o *oracle) lookup(name string, way []step) (api.Type, bool) {
	for _, p := range o.f.Params {
		if p.Name == name {
			return p.Type, false
		}
	}
	for k, st := range way {
		if st.loop != nil && st.loop.Text == name {
			return api.TypeInt, true
		}
		for i, s := range st.block[:st.index] {
			if s.Op == api.StmtLet && s.Text == name {
				return o.expr(s.Exprs[0], append(slices.Clone(way[:k]), step{st.block, i, st.loop})), false
			}
		}
	}
	return api.TypeNone, false
}

// shapes has, for each kind of statement, how many expressions it has, and which blocks.
var shapes = map[api.StmtOp]string{
	api.StmtLet: "1", api.StmtSet: "1", api.StmtIf: "1 body else", api.StmtFor: "2 body", api.StmtReturn: "0 1", api.StmtPut: "2", api.StmtDel: "1", api.StmtDo: "1",
}

func (o *oracle) stmt(s api.Stmt, way []step) {
	shape := strings.Fields(shapes[s.Op])
	need(slices.Contains(shape, strconv.Itoa(len(s.Exprs))), api.ErrType, s.At)
	need(len(s.Body) == 0 || slices.Contains(shape, "body"), api.ErrType, s.At)
	need(len(s.Else) == 0 || slices.Contains(shape, "else"), api.ErrType, s.At)
	old, loop := o.lookup(s.Text, way)
	if s.Op == api.StmtSet {
		need(old != api.TypeNone, api.ErrName, s.At)
		need(!loop, api.ErrType, s.At)
	}
	need(s.Op != api.StmtReturn || len(s.Exprs) > 0 || o.f.Result == api.TypeNone, api.ErrType, s.At)
	for _, e := range s.Exprs {
		t := o.expr(e, way)
		switch s.Op {
		case api.StmtLet:
			need(t != api.TypeNone, api.ErrType, e.At)
		case api.StmtSet:
			need(t == old, api.ErrType, e.At)
		case api.StmtIf:
			need(t == api.TypeBool, api.ErrType, e.At)
		case api.StmtFor:
			need(t == api.TypeInt, api.ErrType, e.At)
		case api.StmtReturn:
			need(o.f.Result != api.TypeNone, api.ErrType, e.At)
			need(t == o.f.Result, api.ErrType, e.At)
		case api.StmtPut, api.StmtDel:
			need(t == api.TypeBytes, api.ErrType, e.At)
		case api.StmtDo:
			need(e.Op == api.ExprCall, api.ErrType, e.At)
		}
	}
	if s.Op == api.StmtLet || s.Op == api.StmtFor {
		need(old == api.TypeNone, api.ErrTwice, s.At)
	}
	var around *api.Stmt
	if s.Op == api.StmtFor {
		around = &s
	}
	o.block(s.Body, around, way)
	o.block(s.Else, nil, way)
}

// kinds has, for each kind of expression with a fixed number of Kids, the rows of the types of its Kids and its own.
func kinds(e api.Expr) []string {
	switch e.Op {
	case api.ExprNum:
		return []string{"int"}
	case api.ExprBool:
		return []string{"bool"}
	case api.ExprText:
		return []string{"bytes"}
	case api.ExprTwo:
		return signs[e.Text]
	case api.ExprOne:
		return map[string][]string{"-": {"int int"}, "!": {"bool bool"}}[e.Text]
	case api.ExprGet:
		return []string{"bytes bytes"}
	case api.ExprHas:
		return []string{"bytes bool"}
	case api.ExprLen:
		return []string{"bytes int"}
	}
	return nil
}

func (o *oracle) expr(e api.Expr, way []step) api.Type {
	switch e.Op {
	case api.ExprName:
		need(len(e.Kids) == 0, api.ErrType, e.At)
		t, _ := o.lookup(e.Text, way)
		need(t != api.TypeNone, api.ErrName, e.At)
		return t
	case api.ExprCall:
		i := slices.IndexFunc(o.p.Funcs, func(f api.Func) bool { return f.Name == e.Text })
		need(i >= 0, api.ErrName, e.At)
		f := o.p.Funcs[i]
		need(len(e.Kids) == len(f.Params), api.ErrType, e.At)
		for k, kid := range e.Kids {
			need(o.expr(kid, way) == f.Params[k].Type, api.ErrType, kid.At)
		}
		return f.Result
	}
	rows := kinds(e)
	need(len(rows) > 0 && len(strings.Fields(rows[0])) == len(e.Kids)+1, api.ErrType, e.At)
	var got []api.Type
	for k, kid := range e.Kids {
		t := o.expr(kid, way)
		// A type that no function can have as its Result is as good as any other for == and !=.
		odd := (e.Text == "==" || e.Text == "!=") && t > api.TypeBytes
		need(odd || slices.ContainsFunc(rows, func(row string) bool { return typeNamed(strings.Fields(row)[k]) == t }), api.ErrType, kid.At)
		got = append(got, t)
	}
	if len(got) == 2 {
		need(got[0] == got[1], api.ErrType, e.At)
		if got[0] > api.TypeBytes {
			return api.TypeBool
		}
	}
	for _, row := range rows {
		if f := strings.Fields(row); len(got) == 0 || typeNamed(f[0]) == got[0] {
			return typeNamed(f[len(f)-1])
		}
	}
	return api.TypeNone
}

// mustAgree fails unless Check and the oracle say the same of a program, and leaves it as it is.
func mustAgree(t *testing.T, p api.Program) verdict {
	t.Helper()
	n := 0
	same := placed(p, func() int { return 0 })
	e, at := Check(p)
	if want := expected(p); (verdict{e, at}) != want {
		t.Fatalf("Check(%q) = %v, %d; want %v (the offsets count the things)", syntax.Show(p), e, at, want)
	}
	if !reflect.DeepEqual(placed(p, func() int { return 0 }), same) || !reflect.DeepEqual(p, placed(p, func() int { n++; return n })) {
		t.Fatalf("Check changed the program %q", syntax.Show(p))
	}
	return verdict{e, at}
}

func TestRandomPrograms(t *testing.T) {
	count := map[api.Errno]int{}
	for seed := range 8000 {
		r := rand.New(rand.NewSource(int64(seed)))
		p := counted(program(r))
		if v := mustAgree(t, p); v != (verdict{}) {
			t.Fatalf("Check(%q) = %v", syntax.Show(p), v)
		}
		count[mustAgree(t, spoiled(r, p)).err]++
	}
	for _, e := range []api.Errno{api.OK, api.ErrTooMany, api.ErrType, api.ErrName, api.ErrTwice, api.ErrEnds} {
		if count[e] < 100 {
			t.Errorf("only %d spoiled programs with %v", count[e], e)
		}
	}
}

// A valid program as text is a valid program for Front, and the same one.
func TestRandomSources(t *testing.T) {
	fit := 0
	for seed := range 2000 {
		p := program(rand.New(rand.NewSource(int64(seed))))
		src := syntax.Show(p)
		q, e, at := Front([]byte(src))
		if e == api.ErrTooMany && at == 0 && len(src) > api.MaxSource {
			continue
		}
		if e != api.OK || at != 0 || syntax.Show(q) != src {
			t.Fatalf("Front(%q) = %q, %v, %d", src, syntax.Show(q), e, at)
		}
		fit++
	}
	if fit < 1000 {
		t.Errorf("only %d programs", fit)
	}
}

// P5.2: a valid function of another name behind, ahead of, or between those of a valid program.
func TestFunctionMore(t *testing.T) {
	for seed := range 2000 {
		r := rand.New(rand.NewSource(int64(seed)))
		p := program(r)
		m := &maker{rand: r, funcs: slices.Clone(p.Funcs)}
		head := m.head("other")
		m.funcs = append(m.funcs, head)
		f := m.function(head)
		q := counted(api.Program{Funcs: slices.Insert(slices.Clone(p.Funcs), r.Intn(len(p.Funcs)+1), f)})
		if e, at := Check(q); e != api.OK || at != 0 {
			t.Fatalf("Check(%q) = %v, %d", syntax.Show(q), e, at)
		}
	}
	mustFit(t, repeated(63, "fn f#() { }", " ")+" fn g() { f0(); }")
}

// P5.2: without its last function a valid program is valid if nothing calls that function; if something does, the first call of it is wrong.
func TestFunctionLess(t *testing.T) {
	called, free := 0, 0
	for seed := range 2000 {
		p := counted(program(rand.New(rand.NewSource(int64(seed)))))
		if len(p.Funcs) == 0 {
			continue
		}
		last := p.Funcs[len(p.Funcs)-1]
		q := api.Program{Funcs: p.Funcs[:len(p.Funcs)-1]}
		want := verdict{}
		for _, e := range partsOfProgram(q).exprs {
			if want.err == api.OK && e.Op == api.ExprCall && e.Text == last.Name {
				want = verdict{api.ErrName, e.At}
			}
		}
		e, at := Check(q)
		if (verdict{e, at}) != want {
			t.Fatalf("Check(%q) = %v, %d; want %v", syntax.Show(q), e, at, want)
		}
		if want.err == api.OK {
			free++
		} else {
			called++
		}
	}
	if called < 100 || free < 100 {
		t.Errorf("only %d with a call, %d without", called, free)
	}
}

// P5.3: with other offsets the same error, at the offset of the same thing.
func TestOffsets(t *testing.T) {
	for seed := range 4000 {
		r := rand.New(rand.NewSource(int64(seed)))
		p := counted(program(r))
		if seed%2 == 1 {
			p = spoiled(r, p)
		}
		e, at := Check(p)
		where := []int{0}
		q := placed(p, func() int {
			where = append(where, int(r.Uint64()>>r.Intn(64)))
			return where[len(where)-1]
		})
		want := where[at]
		if f, there := Check(q); f != e || there != want {
			t.Fatalf("Check(%q) = %v, %d; with other offsets %v, %d; want %d", syntax.Show(p), e, at, f, there, want)
		}
		if f, there := Check(placed(p, func() int { return -7 })); f != e || there != 0 && there != -7 || (there == 0) != (at == 0) {
			t.Fatalf("Check(%q) = %v, %d; with offsets -7 %v, %d", syntax.Show(p), e, at, f, there)
		}
	}
}
