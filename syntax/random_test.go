package syntax

import (
	"math/rand"
	"reflect"
	"slices"
	"strconv"
	"strings"
	"testing"

	"covenant/api"
	"covenant/token"
)

// maker writes a random program, and makes beside it the program that its text must be parsed as.
type maker struct {
	rand  *rand.Rand
	text  strings.Builder
	began int // the offset of the first token since it was below 0
}

// put writes a token, with random white space ahead of it, and returns its offset.
func (m *maker) put(s string) int {
	old := m.text.String()
	wordy := func(c byte) bool { return 'a' <= c && c <= 'z' || '0' <= c && c <= '9' || c == '_' }
	if len(old) > 0 && (wordy(old[len(old)-1]) && wordy(s[0]) || strings.HasSuffix(s, "=") || strings.HasPrefix(s, "=")) || m.rand.Intn(3) == 0 {
		m.text.WriteString([]string{" ", "\n", "\t", "\r ", " # (\n"}[m.rand.Intn(5)])
	}
	at := m.text.Len()
	if m.began < 0 {
		m.began = at
	}
	m.text.WriteString(s)
	return at
}

func (m *maker) name() (string, int) {
	s := []string{"a", "b", "x_1", "f", "lets", "to_", "abcdefghijklmnop"}[m.rand.Intn(7)]
	return s, m.put(s)
}

func (m *maker) typ() api.Type {
	i := m.rand.Intn(3)
	m.put([]string{"int", "bool", "bytes"}[i])
	return api.Type(i + 1)
}

func (m *maker) program() api.Program {
	var p api.Program
	for range m.rand.Intn(4) {
		f := api.Func{At: m.put("fn")}
		f.Name, _ = m.name()
		m.put("(")
		for i := range m.rand.Intn(4) {
			if i > 0 {
				m.put(",")
			}
			s, _ := m.name()
			m.put(":")
			f.Params = append(f.Params, api.Param{Name: s, Type: m.typ()})
		}
		m.put(")")
		if m.rand.Intn(2) == 0 {
			m.put(":")
			f.Result = m.typ()
		}
		f.Body = m.block(3)
		p.Funcs = append(p.Funcs, f)
	}
	return p
}

func (m *maker) block(levels int) []api.Stmt {
	var l []api.Stmt
	m.put("{")
	for range m.rand.Intn(4) {
		l = append(l, m.stmt(levels))
	}
	m.put("}")
	return l
}

// exprs writes tokens, and an expression of so many levels for each E among them.
func (m *maker) exprs(form string, levels int) []api.Expr {
	var l []api.Expr
	for _, s := range strings.Fields(form) {
		if s == "E" {
			l = append(l, m.expr(levels, 0))
		} else {
			m.put(s)
		}
	}
	return l
}

func (m *maker) stmt(levels int) api.Stmt {
	var s api.Stmt
	op := api.StmtOp(1 + m.rand.Intn(8))
	if levels == 0 && (op == api.StmtIf || op == api.StmtFor) {
		op = api.StmtDo
	}
	word := map[api.StmtOp]string{api.StmtLet: "let", api.StmtIf: "if", api.StmtFor: "for", api.StmtReturn: "return", api.StmtPut: "put", api.StmtDel: "del"}[op]
	if word != "" {
		s.At = m.put(word)
	}
	switch op {
	case api.StmtLet:
		s.Text, _ = m.name()
		s.Exprs = m.exprs("= E ;", 3)
	case api.StmtSet:
		s.Text, s.At = m.name()
		s.Exprs = m.exprs("= E ;", 3)
	case api.StmtIf:
		s.Exprs = m.exprs("E", 3)
		s.Body = m.block(levels - 1)
		if m.rand.Intn(2) == 0 {
			m.put("else")
			s.Else = m.block(levels - 1)
		}
	case api.StmtFor:
		s.Text, _ = m.name()
		s.Exprs = m.exprs("= E to E", 3)
		s.Body = m.block(levels - 1)
	case api.StmtReturn:
		s.Exprs = m.exprs([]string{";", "E ;"}[m.rand.Intn(2)], 3)
	case api.StmtPut:
		s.Exprs = m.exprs("( E , E ) ;", 3)
	case api.StmtDel:
		s.Exprs = m.exprs("( E ) ;", 3)
	case api.StmtDo:
		m.began = -1
		s.Exprs = m.exprs("E ;", 3)
		s.At = m.began
	}
	s.Op = op
	return s
}

// expr writes an expression whose signs, outside parentheses, have at least a rank.
func (m *maker) expr(levels, rank int) api.Expr {
	if levels == 0 {
		return m.leaf()
	}
	switch k := m.rand.Intn(10); {
	case k < 4:
		i := m.rand.Intn(len(ranks))
		if i < rank {
			m.put("(")
			e := m.two(levels, i)
			m.put(")")
			return e
		}
		return m.two(levels, i)
	case k < 5:
		m.put("(")
		e := m.expr(levels-1, 0)
		m.put(")")
		return e
	case k < 6:
		sign := []string{"-", "!"}[m.rand.Intn(2)]
		at := m.put(sign)
		return one(sign, at, m.expr(levels-1, len(ranks)))
	case k < 7:
		s, at := m.name()
		return call(s, at, m.exprs([]string{"( )", "( E )", "( E , E )", "( E , E , E )"}[m.rand.Intn(4)], levels-1)...)
	case k < 8:
		i := m.rand.Intn(3)
		at := m.put([]string{"get", "has", "len"}[i])
		return of([]api.ExprOp{api.ExprGet, api.ExprHas, api.ExprLen}[i], at, m.exprs("( E )", levels-1)...)
	}
	return m.leaf()
}

// two writes two operands and a sign of a rank: to the left there may be a sign of the same rank, unless it compares.
func (m *maker) two(levels, rank int) api.Expr {
	left := rank
	if rank == compareRank {
		left++
	}
	a := m.expr(levels-1, left)
	sign := ranks[rank][m.rand.Intn(len(ranks[rank]))]
	at := m.put(sign)
	return two(sign, at, a, m.expr(levels-1, rank+1))
}

func (m *maker) leaf() api.Expr {
	switch m.rand.Intn(4) {
	case 0:
		n := m.rand.Int63() >> m.rand.Intn(63)
		return num(n, m.put(strconv.FormatInt(n, 10)))
	case 1:
		n := m.rand.Int63n(2)
		return truth(n, m.put(strconv.FormatBool(n == 1)))
	case 2:
		s := []string{"", "a", "(", "fn f() { }", "# ;"}[m.rand.Intn(5)]
		return text(s, m.put(`"`+s+`"`))
	}
	s, at := m.name()
	return name(s, at)
}

// withoutOffsets is a program with all offsets 0.
func withoutOffsets(p api.Program) api.Program {
	funcs := slices.Clone(p.Funcs)
	for i := range funcs {
		funcs[i].At = 0
		funcs[i].Body = stmtsWithoutOffsets(funcs[i].Body)
	}
	return api.Program{Funcs: funcs}
}

func stmtsWithoutOffsets(l []api.Stmt) []api.Stmt {
	l = slices.Clone(l)
	for i := range l {
		l[i].At = 0
		l[i].Exprs = exprsWithoutOffsets(l[i].Exprs)
		l[i].Body = stmtsWithoutOffsets(l[i].Body)
		l[i].Else = stmtsWithoutOffsets(l[i].Else)
	}
	return l
}

func exprsWithoutOffsets(l []api.Expr) []api.Expr {
	l = slices.Clone(l)
	for i := range l {
		l[i].At = 0
		l[i].Kids = exprsWithoutOffsets(l[i].Kids)
	}
	return l
}

// checkRoundTrip parses what is shown of a program. Parentheses may make that too long or too deep.
func checkRoundTrip(t *testing.T, p api.Program) bool {
	t.Helper()
	shown := Show(p)
	q, e, at := Parse([]byte(shown))
	if e == api.ErrTooMany || e == api.ErrDeep {
		return false
	}
	if e != api.OK || at != 0 || !reflect.DeepEqual(withoutOffsets(p), withoutOffsets(q)) || Show(q) != shown {
		t.Fatalf("%.400q is parsed with %v, %d, and shown as %.400q", shown, e, at, Show(q))
	}
	return true
}

func TestRandomPrograms(t *testing.T) {
	parsed, again := 0, 0
	for seed := range 2000 {
		m := &maker{rand: rand.New(rand.NewSource(int64(seed)))}
		want := m.program()
		src := m.text.String()
		if tokens, e, _ := token.Lex([]byte(src)); e != api.OK || len(src) > api.MaxSource || len(tokens) > api.MaxTokens {
			continue
		}
		p, e, at := Parse([]byte(src))
		if e != api.OK || at != 0 || !reflect.DeepEqual(p, want) {
			t.Fatalf("Parse(%q) = %.400q, %v, %d; want %.400q (or offsets are wrong)", src, Show(p), e, at, Show(want))
		}
		parsed++
		if checkRoundTrip(t, p) {
			again++
		}
	}
	if parsed < 1000 || again < 1000 {
		t.Errorf("only %d programs were parsed, and %d once more", parsed, again)
	}
}

// Signs between operands add parentheses, and so depth, when they are shown.
func TestRoundTripOfLongSums(t *testing.T) {
	for n, want := range map[int]bool{2: true, api.MaxDeep - 1: true, api.MaxDeep: false, 200: false} {
		p, e, at := Parse([]byte("fn f() { x = 1" + strings.Repeat("+1", n-1) + "; }"))
		if e != api.OK {
			t.Fatal(n, e, at)
		}
		if checkRoundTrip(t, p) != want {
			t.Errorf("%d operands: parsed once more %v; want %v", n, !want, want)
		}
	}
}

// The grammar of the document, for a parser of another kind. A part that has a depth stands behind +; what is made of it has that depth, too.
var grammar = map[string]string{
	"PROGRAM":    " | FUNC PROGRAM",
	"FUNC":       "fn NAME ( PARAMS ) RESULT BLOCK+",
	"PARAMS":     " | PARAM MOREPARAMS",
	"MOREPARAMS": " | , PARAM MOREPARAMS",
	"PARAM":      "NAME : TYPE",
	"RESULT":     " | : TYPE",
	"TYPE":       "int | bool | bytes",
	"BLOCK":      "{ STMTS }",
	"STMTS":      " | STMT STMTS",
	"STMT":       "let NAME = EXPR+ ; | if EXPR+ BLOCK+ | if EXPR+ BLOCK+ else BLOCK+ | for NAME = EXPR+ to EXPR+ BLOCK+ | return ; | return EXPR+ ; | put ( EXPR+ , EXPR+ ) ; | del ( EXPR+ ) ; | SETNAME = EXPR+ ; | EXPR+ ;",
	"EXPR":       "AND | EXPR || AND",
	"AND":        "CMP | AND && CMP",
	"CMP":        "SUM | SUM == SUM | SUM != SUM | SUM < SUM | SUM <= SUM | SUM > SUM | SUM >= SUM",
	"SUM":        "PROD | SUM + PROD | SUM - PROD",
	"PROD":       "ONE | PROD * ONE | PROD / ONE | PROD % ONE",
	"ONE":        "- ONE+ | ! ONE+ | NUM | true | false | TEXT | NAME | NAME ( ARGS ) | ( EXPR+ ) | get ( EXPR+ ) | has ( EXPR+ ) | len ( EXPR+ )",
	"ARGS":       " | EXPR+ MOREARGS",
	"MOREARGS":   " | , EXPR+ MOREARGS",
}

// fits reports whether a token is what a word of the grammar says. A name ahead of = can be any name, but only such a name is a SETNAME.
func fits(word string, tokens []api.Token, i int) bool {
	t := tokens[i]
	switch word {
	case "NAME":
		return t.Kind == api.TokName
	case "SETNAME":
		return t.Kind == api.TokName && i+1 < len(tokens) && tokens[i+1].Kind == api.TokSign && tokens[i+1].Text == "="
	case "NUM":
		return t.Kind == api.TokNum
	case "TEXT":
		return t.Kind == api.TokText
	}
	return t.Kind == api.TokSign && t.Text == word
}

// item is a rule of which some words are read, for a part with a depth that begins at a token.
type item struct {
	part, rule string
	read       int
	deep, from int
}

func (it item) rest() []string { return strings.Fields(it.rule)[it.read:] }

// chart is the state of Earley's algorithm, which follows all ways to read the tokens at once.
type chart struct {
	sets [][]item
	seen []map[item]struct{}
	deep []bool // whether a part that is too deep could begin there
}

func (c *chart) add(i int, it item) {
	if _, ok := c.seen[i][it]; !ok {
		c.seen[i][it] = struct{}{}
		c.sets[i] = append(c.sets[i], it)
	}
}

func (c *chart) predict(i int, word string, deep int) {
	part, deeper := strings.CutSuffix(word, "+")
	if deeper {
		deep++
	}
	if deep > api.MaxDeep {
		c.deep[i] = true
		return
	}
	for _, rule := range strings.Split(grammar[part], " | ") {
		c.add(i, item{part: part, rule: rule, deep: deep, from: i})
	}
}

// close adds what follows from the items at a token.
func (c *chart) close(i int) {
	for k := 0; k < len(c.sets[i]); k++ {
		it := c.sets[i][k]
		if rest := it.rest(); len(rest) > 0 {
			part := strings.TrimSuffix(rest[0], "+")
			if _, ok := grammar[part]; ok {
				c.predict(i, rest[0], it.deep)
				c.skipEmpty(i, it, part)
			}
			continue
		}
		for _, before := range slices.Clone(c.sets[it.from]) {
			c.complete(i, before, it)
		}
	}
}

// skipEmpty passes a part that may have no tokens.
func (c *chart) skipEmpty(i int, it item, part string) {
	if strings.HasPrefix(grammar[part], " |") {
		it.read++
		c.add(i, it)
	}
}

func (c *chart) complete(i int, before, done item) {
	rest := before.rest()
	if len(rest) == 0 {
		return
	}
	part, deeper := strings.CutSuffix(rest[0], "+")
	deep := before.deep
	if deeper {
		deep++
	}
	if part == done.part && deep == done.deep {
		before.read++
		c.add(i, before)
	}
}

// expected returns what Parse must tell of tokens.
func expected(tokens []api.Token, end int) (api.Errno, int) {
	n := len(tokens)
	c := &chart{sets: make([][]item, n+1), seen: make([]map[item]struct{}, n+1), deep: make([]bool, n+1)}
	for i := range c.seen {
		c.seen[i] = map[item]struct{}{}
	}
	c.predict(0, "PROGRAM", 0)
	for i := 0; ; i++ {
		c.close(i)
		if i < n {
			for _, it := range c.sets[i] {
				if rest := it.rest(); len(rest) > 0 && fits(rest[0], tokens, i) {
					it.read++
					c.add(i+1, it)
				}
			}
			if len(c.sets[i+1]) > 0 {
				continue
			}
			end = tokens[i].At
		} else if slices.ContainsFunc(c.sets[n], func(it item) bool { return it.part == "PROGRAM" && it.from == 0 && len(it.rest()) == 0 }) {
			return api.OK, 0
		}
		if c.deep[i] {
			return api.ErrDeep, end
		}
		return api.ErrSyntax, end
	}
}

// checkVerdict holds the verdict of Parse against that of the other parser.
func checkVerdict(t *testing.T, src string) api.Errno {
	t.Helper()
	tokens, e, at := token.Lex([]byte(src))
	if e == api.OK {
		e, at = expected(tokens, len(src))
	}
	p, got, where := Parse([]byte(src))
	if got != e || where != at || e != api.OK && p.Funcs != nil {
		t.Fatalf("Parse(%q): %v, %d; want %v, %d", src, got, where, e, at)
	}
	return e
}

// deepStart is text after which a part has a depth that is nearly too great.
func deepStart(r *rand.Rand) string {
	s, deep := "fn f() { ", 1
	for most := api.MaxDeep - r.Intn(5); deep < most && r.Intn(40) > 0; deep++ {
		s += []string{"if a { ", "for i = 0 to 1 { ", "if a { } else { "}[r.Intn(3)]
	}
	s += []string{"", "x = ", "return ", "put(", "let x = ", "x", "g(", "for i = ", "if ", "del("}[r.Intn(10)]
	for most := api.MaxDeep - r.Intn(5); deep < most; deep++ {
		s += []string{"(", "-", "!", "g(", "len(", "a + (", "g(1, "}[r.Intn(7)]
	}
	return s
}

var pieces = strings.Fields(`fn let if else for to return put del get has len true false int bool bytes == != <= >= && || ( ) { } , ; : = < > + - * / % ! a f x 1 2 "" "("` + strings.Repeat(" ( ) { } ; , a x", 3))

// A random program in which a few tokens are left out, doubled, or exchanged.
func spoil(r *rand.Rand, src string) string {
	tokens, _, _ := token.Lex([]byte(src))
	var words []string
	for i, t := range tokens {
		end := len(src)
		if i+1 < len(tokens) {
			end = tokens[i+1].At
		}
		words = append(words, src[t.At:end])
	}
	for range r.Intn(3) {
		if len(words) == 0 {
			break
		}
		i := r.Intn(len(words))
		piece := pieces[r.Intn(len(pieces))] + " "
		switch r.Intn(5) {
		case 0:
			words = slices.Delete(words, i, i+1)
		case 1:
			words = slices.Insert(words, i, piece)
		case 2:
			words[i] = piece
		case 3:
			words = slices.Insert(words, i, words[i])
		case 4:
			words = words[:i]
		}
	}
	return strings.Join(words, " ")
}

func TestRandomVerdicts(t *testing.T) {
	count := map[api.Errno]int{}
	for seed := range 500 {
		r := rand.New(rand.NewSource(int64(seed)))
		m := &maker{rand: r}
		m.program()
		if m.text.Len() < 1000 {
			count[checkVerdict(t, spoil(r, m.text.String()))]++
		}
		src := deepStart(r)
		for range r.Intn(12) {
			src += pieces[r.Intn(len(pieces))] + " "
		}
		count[checkVerdict(t, src)]++
	}
	for _, e := range []api.Errno{api.OK, api.ErrSyntax, api.ErrDeep} {
		if count[e] < 100 {
			t.Errorf("only %d sources with %v", count[e], e)
		}
	}
}
