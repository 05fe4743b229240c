package compile

import (
	"math/rand"
	"slices"
	"strconv"
	"strings"
	"testing"

	"covenant/api"
	"covenant/code"
	"covenant/syntax"
	"covenant/token"
	"covenant/types"
)

// checkRead holds the module of a program against that of the second reading.
func checkRead(t *testing.T, p api.Program) api.Module {
	t.Helper()
	m, e := Compile(p)
	want := read(p)
	if e != api.OK || !same(m, want) {
		for i, c := range m.Codes {
			if w := want.Codes[i]; !slices.Equal(c.Instrs, w.Instrs) {
				t.Errorf("     %s\nwant %s", told(c.Instrs), told(w.Instrs))
			}
		}
		t.Fatalf("%v: %+v\n%+v; want\n%+v", e, p, m, want)
	}
	return m
}

// P12.1: random programs have the modules of the second reading.
func TestRandomPrograms(t *testing.T) {
	count := map[api.Op]int{}
	for seed := range 2500 {
		p, _ := made(t, seed)
		for _, c := range checkRead(t, p).Codes {
			for _, i := range c.Instrs {
				count[i.Op]++
			}
		}
	}
	for op := api.OpGas; op <= api.OpReturn; op++ {
		if count[op] < 1000 {
			t.Errorf("only %d times %s", count[op], ops[op-1])
		}
	}
}

// P12.1: Build is Front and Compile, of sources that are programs and of sources that are not.
func TestRandomSources(t *testing.T) {
	r := rand.New(rand.NewSource(12))
	count := map[api.Errno]int{}
	for range 4000 {
		src := []byte(randomSource(r) + []string{"", "", " fn g(): int { }", " fn g() { return 1; }", " fn f() { }"}[r.Intn(5)])
		for range r.Intn(3) {
			at := r.Intn(len(src))
			src = slices.Concat(src[:at], []byte(strings.Split("|a|x| |)|}|{|;|1|\"|true|+|return;", "|")[r.Intn(13)]), src[min(len(src), at+r.Intn(3)):])
		}
		p, e, at := types.Front(src)
		m, f, place := Build(src)
		count[f]++
		if f != e || place != at {
			t.Fatalf("Build(%q): %v, %d; want %v, %d", src, f, place, e, at)
		}
		if want := read(p); !same(m, want) {
			t.Fatalf("Build(%q): %+v; want %+v", src, m, want)
		}
	}
	for _, e := range []api.Errno{api.OK, api.ErrSyntax, api.ErrType, api.ErrName, api.ErrTwice, api.ErrEnds} {
		if count[e] < 20 {
			t.Errorf("only %d times %v", count[e], e)
		}
	}
}

// randomSource is a source with one function, whose names may be known.
func randomSource(r *rand.Rand) string {
	pick := func(l ...string) string { return l[r.Intn(len(l))] }
	number := func() string { return pick("a", "1", "a + 2", "-a", "len(\"k\")", "f(a, c)", "a * (a - 3)") }
	truth := func() string { return pick("c", "true", "c && !c", "a < 2 || c", "has(\"k\")", "\"a\" != get(\"b\")") }
	var block func(levels int) string
	block = func(levels int) string {
		if levels == 0 {
			return pick("a = "+number()+";", "f("+number()+", "+truth()+");", "put(\"a\", \"b\");", "del(\"k\");", "return "+number()+";")
		}
		s := block(levels - 1)
		x := "x" + strconv.Itoa(levels)
		return pick(s, s+" "+block(levels-1), "let "+x+" = "+number()+"; "+s, "if "+truth()+" { "+s+" }",
			"if "+truth()+" { "+s+" } else { "+block(levels-1)+" }", "for "+x+" = "+number()+" to "+number()+" { a = "+x+"; "+s+" }")
	}
	return "fn f(a: int, c: bool): int { " + block(4) + " return " + number() + "; }"
}

// P12.2: jumps stay within their function, and so does what follows any instruction.
func TestPlacesStayWithin(t *testing.T) {
	for seed := range 1500 {
		p, _ := made(t, seed)
		m, e := Compile(p)
		if e != api.OK || !code.Right(m) {
			t.Fatal(e)
		}
		for _, c := range m.Codes {
			n := int64(len(c.Instrs))
			if last := c.Instrs[n-1].Op; last != api.OpReturn {
				t.Fatalf("%+v: the last instruction is %s", p, ops[last-1])
			}
			for at, i := range c.Instrs {
				jumps := i.Op == api.OpJump || i.Op == api.OpUnless
				if jumps && (i.A < 0 || i.A >= n) || i.Op == api.OpUnless && i.A <= int64(at) {
					t.Fatalf("%+v: %s %d at %d of %d", p, ops[i.Op-1], i.A, at, n)
				}
			}
		}
	}
}

// renamed is a program whose variables have other names, each declaration one of its own that new returns, and whose offsets are all changed.
func renamed(p api.Program, fresh func() string, at func() int) api.Program {
	q := api.Program{Funcs: slices.Clone(p.Funcs)}
	for i, f := range q.Funcs {
		names := map[string]string{}
		params := slices.Clone(f.Params)
		for k, param := range params {
			params[k].Name = fresh()
			names[param.Name] = params[k].Name
		}
		f.Params, f.Body, f.At = params, renamedBlock(f.Body, names, fresh, at), at()
		q.Funcs[i] = f
	}
	return q
}

func renamedBlock(l []api.Stmt, names map[string]string, fresh func() string, at func() int) []api.Stmt {
	inner := map[string]string{}
	for k, v := range names {
		inner[k] = v
	}
	out := slices.Clone(l)
	for i, s := range out {
		s.At = at()
		s.Exprs = renamedExprs(s.Exprs, inner, at)
		switch old := s.Text; s.Op {
		case api.StmtSet:
			s.Text = inner[old]
		case api.StmtLet:
			s.Text = fresh()
			inner[old] = s.Text
		case api.StmtFor:
			s.Text = fresh()
			within := map[string]string{old: s.Text}
			for k, v := range inner {
				if k != old {
					within[k] = v
				}
			}
			s.Body = renamedBlock(s.Body, within, fresh, at)
			out[i] = s
			continue
		}
		s.Body, s.Else = renamedBlock(s.Body, inner, fresh, at), renamedBlock(s.Else, inner, fresh, at)
		out[i] = s
	}
	return out
}

func renamedExprs(l []api.Expr, names map[string]string, at func() int) []api.Expr {
	out := slices.Clone(l)
	for i, e := range out {
		out[i].At = at()
		if e.Op == api.ExprName {
			out[i].Text = names[e.Text]
		}
		out[i].Kids = renamedExprs(e.Kids, names, at)
	}
	return out
}

// P12.3: neither the names of variables nor offsets change the module.
func TestNamesAndOffsets(t *testing.T) {
	for seed := range 1000 {
		p, r := made(t, seed)
		m, _ := Compile(p)
		n := 0
		up := func() string { n++; return "v" + strconv.Itoa(n) }
		down := func() string { n--; return strconv.Itoa(n) }
		likeFuncs := func() string { n++; return p.Funcs[n%len(p.Funcs)].Name + strings.Repeat("'", n/len(p.Funcs)) }
		for _, fresh := range []func() string{up, down, likeFuncs} {
			n = 0
			q := renamed(p, fresh, func() int { return r.Int() - r.Int() })
			if got, e := Compile(q); e != api.OK || !same(got, m) {
				t.Fatalf("%+v: %v, %+v\n%+v: %+v", q, e, got, p, m)
			}
		}
		if q := renamed(p, up, func() int { return 0 }); !same(m, read(q)) {
			t.Fatalf("%+v", q)
		}
	}
}

// respelt is a source with other white space between its tokens, and other names of variables.
func respelt(t *testing.T, src string) string {
	t.Helper()
	l, e, _ := token.Lex([]byte(src))
	if e != api.OK {
		t.Fatal(src, e)
	}
	var b strings.Builder
	for i, k := range l {
		switch {
		case k.Kind == api.TokNum:
			b.WriteString(strconv.FormatInt(k.Num, 10))
		case k.Kind == api.TokText:
			b.WriteString(`"` + k.Text + `"`)
		case k.Kind == api.TokName && l[i+1].Text != "(":
			other, ok := map[string]string{"a": "c", "c": "f", "f": "a"}[k.Text]
			if !ok {
				other = k.Text + "_"
			}
			b.WriteString(other)
		default:
			b.WriteString(k.Text)
		}
		b.WriteString([]string{" ", "\n", "\t#\n", "  "}[i%4])
	}
	return b.String()
}

// P12.3: neither names of variables nor white space nor parentheses of a source change the module.
func TestSourcesAlike(t *testing.T) {
	r := rand.New(rand.NewSource(3))
	count := 0
	for range 2000 {
		src := randomSource(r)
		p, e, _ := types.Front([]byte(src))
		if e != api.OK {
			continue
		}
		want := built(t, src)
		for _, other := range []string{syntax.Show(p), respelt(t, src), respelt(t, respelt(t, src)), "# " + src + "\n" + src} {
			if len(other) <= api.MaxSource {
				count++
				if !same(built(t, other), want) {
					t.Fatalf("%q and %q: other modules", src, other)
				}
			}
		}
	}
	if count < 2000 {
		t.Errorf("only %d sources", count)
	}
}
