package syntax

import (
	"bytes"
	"reflect"
	"strings"
	"testing"

	"covenant/api"
	"covenant/token"
)

func num(n int64, at int) api.Expr { return api.Expr{Op: api.ExprNum, Num: n, At: at} }

func truth(n int64, at int) api.Expr { return api.Expr{Op: api.ExprBool, Num: n, At: at} }

func text(s string, at int) api.Expr { return api.Expr{Op: api.ExprText, Text: s, At: at} }

func name(s string, at int) api.Expr { return api.Expr{Op: api.ExprName, Text: s, At: at} }

func call(s string, at int, kids ...api.Expr) api.Expr {
	return api.Expr{Op: api.ExprCall, Text: s, Kids: kids, At: at}
}

func two(sign string, at int, a, b api.Expr) api.Expr {
	return api.Expr{Op: api.ExprTwo, Text: sign, Kids: []api.Expr{a, b}, At: at}
}

func one(sign string, at int, a api.Expr) api.Expr {
	return api.Expr{Op: api.ExprOne, Text: sign, Kids: []api.Expr{a}, At: at}
}

func of(op api.ExprOp, at int, kids ...api.Expr) api.Expr {
	return api.Expr{Op: op, Kids: kids, At: at}
}

func param(s string, t api.Type) api.Param { return api.Param{Name: s, Type: t} }

func stmt(op api.StmtOp, name string, at int, exprs ...api.Expr) api.Stmt {
	return api.Stmt{Op: op, Text: name, Exprs: exprs, At: at}
}

// mustParse fails unless a source is the program of these functions.
func mustParse(t *testing.T, src string, want ...api.Func) {
	t.Helper()
	p, e, at := Parse([]byte(src))
	if e != api.OK || at != 0 || !reflect.DeepEqual(p, api.Program{Funcs: want}) {
		t.Errorf("Parse(%.200q) = %+v, %v, %d; want %+v", src, p, e, at, want)
	}
}

// mustBody fails unless the body of a function without parameters has these statements. The body begins at 9.
func mustBody(t *testing.T, body string, want ...api.Stmt) {
	t.Helper()
	mustParse(t, "fn f() { "+body+" }", api.Func{Name: "f", Body: want})
}

// mustExpr fails unless a text is this expression. It begins at 9.
func mustExpr(t *testing.T, expr string, want api.Expr) {
	t.Helper()
	p, e, at := Parse([]byte("fn f() { " + expr + "; }"))
	if e != api.OK || at != 0 {
		t.Errorf("Parse of %q: %v, %d", expr, e, at)
		return
	}
	s := p.Funcs[0].Body[0]
	if s.Op != api.StmtDo || s.At != 9 || s.Text != "" || s.Body != nil || s.Else != nil || !reflect.DeepEqual(s.Exprs, []api.Expr{want}) {
		t.Errorf("%q is %+v; want %+v", expr, s, want)
	}
}

// mustRefuse fails unless a source has this error at this offset, and nothing beside it.
func mustRefuse(t *testing.T, src string, want api.Errno, where int) {
	t.Helper()
	if p, e, at := Parse([]byte(src)); p.Funcs != nil || e != want || at != where {
		t.Errorf("Parse(%.200q) = %d functions, %v, %d; want none, %v, %d", src, len(p.Funcs), e, at, want, where)
	}
}

// mustRefuseMarked is for a source in which @ stands ahead of the token that can't be where it is.
func mustRefuseMarked(t *testing.T, marked string, want api.Errno) {
	t.Helper()
	where := strings.Index(marked, "@")
	mustRefuse(t, marked[:where]+marked[where+1:], want, where)
}

func TestExamples(t *testing.T) {
	mustParse(t, "fn f(): int { return 1 + 2 * 3; }", api.Func{Name: "f", Result: api.TypeInt, Body: []api.Stmt{
		stmt(api.StmtReturn, "", 14, two("+", 23, num(1, 21), two("*", 27, num(2, 25), num(3, 29)))),
	}})
	mustRefuse(t, "fn f() { 1 }", api.ErrSyntax, 11)
}

func TestNoFunctions(t *testing.T) {
	for _, src := range []string{"", " ", "\n\t\r", "# fn f() { }", "# a\n"} {
		mustParse(t, src)
	}
	if p, e, at := Parse(nil); p.Funcs != nil || e != api.OK || at != 0 {
		t.Errorf("Parse(nil) = %v, %v, %d", p, e, at)
	}
}

func TestFunctions(t *testing.T) {
	mustParse(t, "fn f() { }", api.Func{Name: "f"})
	mustParse(t, "fn f():int{}", api.Func{Name: "f", Result: api.TypeInt})
	mustParse(t, "fn f(): bool { }", api.Func{Name: "f", Result: api.TypeBool})
	mustParse(t, "fn f(): bytes { }", api.Func{Name: "f", Result: api.TypeBytes})
	mustParse(t, " fn f(a: int) { }", api.Func{Name: "f", Params: []api.Param{{Name: "a", Type: api.TypeInt}}, At: 1})
	mustParse(t, "fn f(a: int, b: bool, a: bytes): bool { }", api.Func{
		Name:   "f",
		Params: []api.Param{{Name: "a", Type: api.TypeInt}, {Name: "b", Type: api.TypeBool}, {Name: "a", Type: api.TypeBytes}},
		Result: api.TypeBool,
	})
	mustParse(t, "fn f() { }fn g() { f(); }\n#\nfn f() { }",
		api.Func{Name: "f"},
		api.Func{Name: "g", Body: []api.Stmt{stmt(api.StmtDo, "", 19, call("f", 19))}, At: 10},
		api.Func{Name: "f", At: 28})
}

func TestStatements(t *testing.T) {
	mustBody(t, "let x = 1;", stmt(api.StmtLet, "x", 9, num(1, 17)))
	mustBody(t, "x = 1;", stmt(api.StmtSet, "x", 9, num(1, 13)))
	mustBody(t, "return;", stmt(api.StmtReturn, "", 9))
	mustBody(t, "return 1;", stmt(api.StmtReturn, "", 9, num(1, 16)))
	mustBody(t, "return(1);", stmt(api.StmtReturn, "", 9, num(1, 16)))
	mustBody(t, "put(a, b);", stmt(api.StmtPut, "", 9, name("a", 13), name("b", 16)))
	mustBody(t, "del(a);", stmt(api.StmtDel, "", 9, name("a", 13)))
	mustBody(t, "x;", stmt(api.StmtDo, "", 9, name("x", 9)))
	mustBody(t, "x == 1;", stmt(api.StmtDo, "", 9, two("==", 11, name("x", 9), num(1, 14))))
	mustBody(t, "x(1);", stmt(api.StmtDo, "", 9, call("x", 9, num(1, 11))))
	mustBody(t, "(x);", stmt(api.StmtDo, "", 9, name("x", 10)))
	mustBody(t, "1 + 2;", stmt(api.StmtDo, "", 9, two("+", 11, num(1, 9), num(2, 13))))
	mustBody(t, "x=x==x;", stmt(api.StmtSet, "x", 9, two("==", 12, name("x", 11), name("x", 14))))

	loop := stmt(api.StmtFor, "i", 9, num(0, 17), name("n", 22))
	mustBody(t, "for i = 0 to n { }", loop)
	loop.Body = []api.Stmt{stmt(api.StmtDo, "", 26, name("i", 26)), stmt(api.StmtSet, "a", 29, num(2, 33))}
	mustBody(t, "for i = 0 to n { i; a = 2; }", loop)

	choice := stmt(api.StmtIf, "", 9, name("a", 12))
	mustBody(t, "if a { }", choice)
	mustBody(t, "if a { } else { }", choice)
	choice.Else = []api.Stmt{stmt(api.StmtDo, "", 25, num(2, 25))}
	mustBody(t, "if a { } else { 2; }", choice)
	choice = stmt(api.StmtIf, "", 9, name("a", 12))
	choice.Body = []api.Stmt{stmt(api.StmtDo, "", 16, num(1, 16))}
	mustBody(t, "if a { 1; }", choice)
	choice.Else = []api.Stmt{stmt(api.StmtReturn, "", 28), stmt(api.StmtDel, "", 36, num(3, 40))}
	mustBody(t, "if a { 1; } else { return; del(3); }", choice)

	mustBody(t, "if a { } 1;", stmt(api.StmtIf, "", 9, name("a", 12)), stmt(api.StmtDo, "", 18, num(1, 18)))
	inner := stmt(api.StmtIf, "", 16, name("b", 19))
	inner.Else = []api.Stmt{stmt(api.StmtDo, "", 32, num(1, 32))}
	outer := stmt(api.StmtIf, "", 9, name("a", 12))
	outer.Body = []api.Stmt{inner}
	mustBody(t, "if a { if b { } else { 1; } }", outer)
}

func TestExpressions(t *testing.T) {
	mustExpr(t, "0", num(0, 9))
	mustExpr(t, "9223372036854775807", num(1<<63-1, 9))
	mustExpr(t, "true", truth(1, 9))
	mustExpr(t, "false", truth(0, 9))
	mustExpr(t, `"a b"`, text("a b", 9))
	mustExpr(t, `""`, text("", 9))
	mustExpr(t, "x_1", name("x_1", 9))
	mustExpr(t, "g()", call("g", 9))
	mustExpr(t, "g ( 1 )", call("g", 9, num(1, 13)))
	mustExpr(t, "g(1, h(), x)", call("g", 9, num(1, 11), call("h", 14), name("x", 19)))
	mustExpr(t, "(x)", name("x", 10))
	mustExpr(t, "((1))", num(1, 11))
	mustExpr(t, "get(x)", of(api.ExprGet, 9, name("x", 13)))
	mustExpr(t, "has(x)", of(api.ExprHas, 9, name("x", 13)))
	mustExpr(t, "len(x)", of(api.ExprLen, 9, name("x", 13)))
	mustExpr(t, "get(has(len(1)))", of(api.ExprGet, 9, of(api.ExprHas, 13, of(api.ExprLen, 17, num(1, 21)))))
	mustExpr(t, "-1", one("-", 9, num(1, 10)))
	mustExpr(t, "!a", one("!", 9, name("a", 10)))
	mustExpr(t, "--1", one("-", 9, one("-", 10, num(1, 11))))
	mustExpr(t, "!-!a", one("!", 9, one("-", 10, one("!", 11, name("a", 12)))))
	mustExpr(t, "-(1+2)", one("-", 9, two("+", 12, num(1, 11), num(2, 13))))
	mustExpr(t, "a - -1", two("-", 11, name("a", 9), one("-", 13, num(1, 14))))
	mustExpr(t, "-a * b", two("*", 12, one("-", 9, name("a", 10)), name("b", 14)))
	mustExpr(t, "!a == b", two("==", 12, one("!", 9, name("a", 10)), name("b", 15)))
	// A string is no sign, whatever it says.
	mustExpr(t, `"(" + "-"`, two("+", 13, text("(", 9), text("-", 15)))
}

// ranks are the signs between two operands, those that bind least first.
var ranks = [][]string{{"||"}, {"&&"}, {"==", "!=", "<", "<=", ">", ">="}, {"+", "-"}, {"*", "/", "%"}}

const compareRank = 2

func TestRanks(t *testing.T) {
	for i, outer := range ranks {
		for j, inner := range ranks {
			for _, s := range outer {
				for _, u := range inner {
					checkTwoSigns(t, s, i, u, j)
				}
			}
		}
	}
}

// checkTwoSigns parses a S b U c, with signs S and U of ranks i and j.
func checkTwoSigns(t *testing.T, s string, i int, u string, j int) {
	t.Helper()
	expr := "a " + s + " b " + u + " c"
	atS, atB := 11, 12+len(s)
	atU := atB + 2
	a, b, c := name("a", 9), name("b", atB), name("c", atU+len(u)+1)
	switch {
	case i == compareRank && j == compareRank:
		mustRefuse(t, "fn f() { "+expr+"; }", api.ErrSyntax, atU)
	case j > i:
		mustExpr(t, expr, two(s, atS, a, two(u, atU, b, c)))
	default:
		mustExpr(t, expr, two(u, atU, two(s, atS, a, b), c))
	}
}

func TestGroups(t *testing.T) {
	mustExpr(t, "1-2-3", two("-", 12, two("-", 10, num(1, 9), num(2, 11)), num(3, 13)))
	mustExpr(t, "1-(2-3)", two("-", 10, num(1, 9), two("-", 13, num(2, 12), num(3, 14))))
	mustExpr(t, "(1+2)*3", two("*", 14, two("+", 11, num(1, 10), num(2, 12)), num(3, 15)))
	mustExpr(t, "(1<2)<3", two("<", 14, two("<", 11, num(1, 10), num(2, 12)), num(3, 15)))
	mustExpr(t, "1<2&&3<4||5", two("||", 17,
		two("&&", 12, two("<", 10, num(1, 9), num(2, 11)), two("<", 15, num(3, 14), num(4, 16))), num(5, 19)))
}

func TestWrongTokens(t *testing.T) {
	for _, marked := range []string{
		// A program.
		"@f", "@1", "@;", `@"fn"`, "@{ }", "@let x = 1;", "fn f() { } @}", "fn f() { } @1", "fn f() { }@;",
		// A function.
		"fn @", "fn @1", "fn @fn", "fn @int() { }", `fn @"f"() { }`, "fn f@", "fn f @{ }", "fn f@)", "fn f(@", "fn f(@1) { }", "fn f(@,) { }",
		"fn f(a@", "fn f(a@) { }", "fn f(a@, b) { }", "fn f(a @int) { }", "fn f(a:@", "fn f(a: @) { }", "fn f(a: @a) { }", "fn f(a: @fn) { }", "fn f(a: @\"int\") { }",
		"fn f(a: int@", "fn f(a: int @b: int) { }", "fn f(a: int,@) { }", "fn f(a: int,@", "fn f(a: int, @int: int) { }", "fn f(a: int@; b: int) { }",
		"fn f()@", "fn f() @;", "fn f() @fn g() { }", "fn f():@", "fn f(): @{ }", "fn f(): @void { }", "fn f(): int@", "fn f(): int @int { }", "fn f() @int { }",
		// A block.
		"fn f() {@", "fn f() { @)", "fn f() { @fn", "fn f() { @{ } }", "fn f() { @; }", "fn f() { @else { } }", "fn f() { @to }", "fn f() { @, }", "fn f() { 1;@", "fn f() { @int; }",
		// Statements.
		"fn f() { let@", "fn f() { let @1 = 1; }", "fn f() { let @if = 1; }", "fn f() { let x@", "fn f() { let x@; }", "fn f() { let x @== 1; }", "fn f() { let x =@", "fn f() { let x = @; }",
		"fn f() { let x = 1@", "fn f() { let x = 1 @}", "fn f() { let x = 1 @2; }", "fn f() { let x@: int = 1; }",
		"fn f() { x =@", "fn f() { x = @; }", "fn f() { x = @= 1; }", "fn f() { x = y @= 1; }", "fn f() { x = 1@", "fn f() { 1 @= 1; }", "fn f() { (x) @= 1; }", "fn f() { if @= 1; }", `fn f() { "x" @= 1; }`,
		"fn f() { if@", "fn f() { if @{ } }", "fn f() { if a@", "fn f() { if a @; }", "fn f() { if a @b }", "fn f() { if a {@", "fn f() { if a { }@", "fn f() { if a { } @; }",
		"fn f() { if a { } else@", "fn f() { if a { } else @if b { } }", "fn f() { if a { } else @; }", "fn f() { if a { } else { } @else { } }",
		"fn f() { for@", "fn f() { for @1 = 0 to 1 { } }", "fn f() { for i@", "fn f() { for i @to 1 { } }", "fn f() { for i =@", "fn f() { for i = @to 1 { } }", "fn f() { for i = 0@", "fn f() { for i = 0 @{ } }",
		"fn f() { for i = 0 to@", "fn f() { for i = 0 to @{ } }", "fn f() { for i = 0 to 1@", "fn f() { for i = 0 to 1 @; }", "fn f() { for i = 0 @, 1 { } }", "fn f() { for i = 0 to 1 { } @; }",
		"fn f() { return@", "fn f() { return @}", "fn f() { return 1@", "fn f() { return 1 @}", "fn f() { return 1@, 2; }", "fn f() { return;@",
		"fn f() { put@", "fn f() { put @1, 2; }", "fn f() { put(@", "fn f() { put(@); }", "fn f() { put(1@", "fn f() { put(1@); }", "fn f() { put(1,@", "fn f() { put(1, @); }", "fn f() { put(1, 2@", "fn f() { put(1, 2@, 3); }",
		"fn f() { put(1, 2)@", "fn f() { put(1, 2) @}", "fn f() { put(1, 2) @+ 1; }", "fn f() { put @= 1; }",
		"fn f() { del@", "fn f() { del @1; }", "fn f() { del(@", "fn f() { del(@); }", "fn f() { del(1@", "fn f() { del(1@, 2); }", "fn f() { del(1)@", "fn f() { del(1) @}",
		// Expressions.
		"fn f() { 1@", "fn f() { 1 +@", "fn f() { 1 + @; }", "fn f() { @+ 1; }", "fn f() { 1 * @/ 2; }", "fn f() { 1 || @; }", "fn f() { 1 && @&& 2; }", "fn f() { a < @; }", "fn f() { a < b @< c; }", "fn f() { a == b @!= c; }",
		"fn f() { a < b + c @>= d; }", "fn f() { a < b && c < d @< e; }", "fn f() { -@", "fn f() { -@; }", "fn f() { ! @+ 1; }", "fn f() { 1 @! 2; }", "fn f() { a @b; }", `fn f() { a @"b"; }`, "fn f() { 1 @(2); }", "fn f() { true@(); }", "fn f() { (a)@(); }",
		"fn f() { (@", "fn f() { (@); }", "fn f() { (1@", "fn f() { (1@; }", "fn f() { (1@, 2); }", "fn f() { (1)@); }", "fn f() { g(@", "fn f() { g(@; }", "fn f() { g(@,); }", "fn f() { g(1@", "fn f() { g(1,@); }", "fn f() { g(1 @2); }", "fn f() { g(1@; }",
		"fn f() { get@", "fn f() { get@; }", "fn f() { get(@); }", "fn f() { get(1@, 2); }", "fn f() { get(1@", "fn f() { has@; }", "fn f() { has @x; }", "fn f() { has(@); }", "fn f() { has(1@; }", "fn f() { len @1; }", "fn f() { len(@); }", "fn f() { len(1@, 2); }",
		"fn f() { 1 + @let; }", "fn f() { 1 + @put(1, 2); }", "fn f() { @bytes; }", "fn f() { g()@() ; }",
	} {
		mustRefuseMarked(t, marked, api.ErrSyntax)
	}
}

// The token at which something is missing may be followed by white space: the offset is the length of src all the same.
func TestMissingToken(t *testing.T) {
	for _, src := range []string{"fn", "fn f", "fn f(", "fn f() {", "fn f() { 1", "fn f() { return", "fn f() { x = g(1,", "fn f() { if a { }"} {
		for _, tail := range []string{"", " ", "\n\n", " # }"} {
			mustRefuse(t, src+tail, api.ErrSyntax, len(src+tail))
		}
	}
}

func TestLexErrors(t *testing.T) {
	mustRefuse(t, "fn f() { $ }", api.ErrToken, 9)
	mustRefuse(t, `fn f() { "a }`, api.ErrToken, 9)
	mustRefuse(t, "fn f() { "+strings.Repeat("a", api.MaxName+1)+"; }", api.ErrLong, 9)
	mustRefuse(t, "fn f() { 9223372036854775808; }", api.ErrLong, 9)
	mustRefuse(t, strings.Repeat(" ", api.MaxSource+1), api.ErrTooMany, 0)
	mustRefuse(t, strings.Repeat(";", api.MaxTokens+1), api.ErrTooMany, api.MaxTokens)
	// The tokens are read ahead of everything else, also of what is wrong before them.
	mustRefuse(t, "; ; $", api.ErrToken, 4)
	mustRefuse(t, inBlocks(40, "")+"$", api.ErrToken, len(inBlocks(40, "")))
	for _, src := range []string{"A", "fn f() { a.b; }", "\"\x00\"", "fn f() { 1 & 2; }"} {
		_, e, at := token.Lex([]byte(src))
		mustRefuse(t, src, e, at)
	}
}

// inBlocks is a function whose innermost block has a depth, and begins with a text.
func inBlocks(deep int, inner string) string {
	return "fn f() {" + strings.Repeat("if a {", deep-1) + inner
}

// closed is a function with all its blocks closed.
func closed(deep int, inner string) string {
	return inBlocks(deep, inner) + strings.Repeat("}", deep)
}

// mustFit fails unless a source is a program.
func mustFit(t *testing.T, src string) {
	t.Helper()
	if _, e, at := Parse([]byte(src)); e != api.OK || at != 0 {
		t.Errorf("Parse(%q): %v, %d", src, e, at)
	}
}

func TestDepthOfBlocks(t *testing.T) {
	mustFit(t, closed(api.MaxDeep, ""))
	mustFit(t, closed(api.MaxDeep, "return;return;"))
	// The expression of the statement is as deep as its block, and comes first.
	mustRefuse(t, closed(api.MaxDeep, "if b { }"), api.ErrDeep, len(inBlocks(api.MaxDeep, "if ")))
	mustRefuse(t, closed(api.MaxDeep, "for i = 0 to 1 { }"), api.ErrDeep, len(inBlocks(api.MaxDeep, "for i = ")))
	mustFit(t, closed(api.MaxDeep-1, "if b { } else { }"))
	mustFit(t, closed(api.MaxDeep-1, "for i = 0 to 1 { }"))
	// A statement that is no other is an expression, whatever its first token is; so is one of which there is no token.
	for _, next := range []string{"x;", "1;", ";", ")", "else", "fn", ""} {
		mustRefuse(t, inBlocks(api.MaxDeep, next), api.ErrDeep, len(inBlocks(api.MaxDeep, "")))
	}
	mustRefuse(t, inBlocks(api.MaxDeep, "  "), api.ErrDeep, len(inBlocks(api.MaxDeep, "  ")))
	mustRefuse(t, inBlocks(api.MaxDeep-1, ""), api.ErrSyntax, len(inBlocks(api.MaxDeep-1, "")))
	// Blocks beside one another are not deep.
	mustFit(t, "fn f() { "+strings.Repeat("if a { } else { } ", 60)+"} fn g() { "+strings.Repeat("if a { } ", 60)+"}")
}

func TestDepthOfExpressions(t *testing.T) {
	heads := []string{"let x = ", "x = ", "if ", "for i = ", "return ", "put(", "del("}
	for _, head := range heads {
		ahead := inBlocks(api.MaxDeep, head)
		for _, next := range []string{"1", "a", "(", ")", "}", "+", "-", "let", ",", `"a"`, "true", "get", ""} {
			mustRefuse(t, ahead+next, api.ErrDeep, len(ahead))
		}
		ahead = inBlocks(api.MaxDeep-1, head)
		mustRefuse(t, ahead+"1+", api.ErrSyntax, len(ahead)+2)
		mustRefuse(t, ahead+"+;", api.ErrSyntax, len(ahead))
	}
	for _, s := range []string{"let x = 1;", "x = 1;", "if 1 { }", "for i = 1 to 2 { }", "return 1;", "put(1, 2);", "del(1);", "1;"} {
		mustFit(t, closed(api.MaxDeep-1, s))
	}
	// What comes ahead of the expression is looked at before it.
	mustRefuse(t, inBlocks(api.MaxDeep, "let 1"), api.ErrSyntax, len(inBlocks(api.MaxDeep, "let ")))
	mustRefuse(t, inBlocks(api.MaxDeep, "put 1"), api.ErrSyntax, len(inBlocks(api.MaxDeep, "put ")))
	mustRefuse(t, inBlocks(api.MaxDeep, "for i to"), api.ErrSyntax, len(inBlocks(api.MaxDeep, "for i ")))
}

// An expression of a statement of a function has depth 2.
func TestDepthOfPrimaries(t *testing.T) {
	const most = api.MaxDeep - 2
	for _, open := range []string{"(", "g(", "get(", "has(", "len(", "1 + (", "a < g(1, ", "g(g(), "} {
		ahead := "fn f() { x = " + strings.Repeat(open, most)
		mustFit(t, ahead+"1"+strings.Repeat(")", most)+"; }")
		mustFit(t, ahead+"g()"+strings.Repeat(")", most)+"; }")
		mustRefuse(t, ahead+";", api.ErrSyntax, len(ahead))
		mustRefuse(t, ahead, api.ErrSyntax, len(ahead))
		for _, inner := range []string{"(", "g(", "get(", "has(", "len(", "2 * ("} {
			for _, next := range []string{"1", ";", "-", "fn", "}", ",", ""} {
				mustRefuse(t, ahead+inner+next, api.ErrDeep, len(ahead+inner))
			}
		}
		mustRefuse(t, ahead+"get(", api.ErrDeep, len(ahead)+4)
		mustRefuse(t, ahead+"get)", api.ErrSyntax, len(ahead)+3)
		mustRefuse(t, ahead+"()", api.ErrDeep, len(ahead)+1)
		mustRefuse(t, ahead+"get()", api.ErrDeep, len(ahead)+4)
	}
	// Parts beside one another are not deep, and signs between them do not make them so.
	mustFit(t, "fn f() { x = "+strings.Repeat("(1) + g(1, 2) * ", 60)+"1; }")
	mustFit(t, "fn f() { g("+strings.Repeat("1 < 2 || 3 && (4), ", 60)+"1); }")
}

func TestDepthOfPrefixes(t *testing.T) {
	const most = api.MaxDeep - 2
	for _, sign := range []string{"-", "!", "- "} {
		ahead := "fn f() { x = " + strings.Repeat(sign, most)
		mustFit(t, ahead+"1; }")
		mustFit(t, ahead+"g(); }")
		mustRefuse(t, ahead, api.ErrSyntax, len(ahead))
		mustRefuse(t, ahead+";", api.ErrSyntax, len(ahead))
		for _, next := range []string{"1", ";", "(", "-", "!", "+", "fn", ""} {
			mustRefuse(t, ahead+"-"+next, api.ErrDeep, len(ahead)+1)
			mustRefuse(t, ahead+"!"+next, api.ErrDeep, len(ahead)+1)
			mustRefuse(t, ahead+"("+next, api.ErrDeep, len(ahead)+1)
			mustRefuse(t, ahead+"len("+next, api.ErrDeep, len(ahead)+4)
		}
	}
	// A sign and parentheses behind it are two levels.
	mixed := "fn f() { x = " + strings.Repeat("-(", most/2)
	mustFit(t, mixed+"1"+strings.Repeat(")", most/2)+"; }")
	mustRefuse(t, mixed+"-1", api.ErrDeep, len(mixed)+1)
	mustRefuse(t, mixed+"(1", api.ErrDeep, len(mixed)+1)
	// A sign within an operand does not make the next operand deep.
	mustFit(t, "fn f() { x = "+strings.Repeat("--1 - ", 60)+"!1; }")
	// In deep blocks.
	mustFit(t, closed(api.MaxDeep-2, "-x;"))
	mustFit(t, closed(api.MaxDeep-1, "x;"))
	mustRefuse(t, closed(api.MaxDeep-1, "-x;"), api.ErrDeep, len(inBlocks(api.MaxDeep-1, "-")))
	mustRefuse(t, closed(api.MaxDeep-1, "1+(2);"), api.ErrDeep, len(inBlocks(api.MaxDeep-1, "1+(")))
}

// Of two errors the one that comes first counts.
func TestFirstError(t *testing.T) {
	deep := strings.Repeat("(", 40)
	mustRefuse(t, "fn f() { 1 2; x = "+deep, api.ErrSyntax, 11)
	mustRefuse(t, "fn f() { x = "+deep+" let", api.ErrDeep, 13+api.MaxDeep-1)
	mustRefuse(t, "fn f() { x = "+deep+"} } fn", api.ErrDeep, 13+api.MaxDeep-1)
	mustRefuse(t, "fn f( { x = "+deep, api.ErrSyntax, 6)
}

func TestShowFunctions(t *testing.T) {
	for _, c := range []struct {
		want  string
		funcs []api.Func
	}{
		{"", nil},
		{"fn f() { }\n", []api.Func{{Name: "f"}}},
		{"fn f() { }\nfn g(): int { }\n", []api.Func{{Name: "f", At: 9}, {Name: "g", Result: api.TypeInt}}},
		{"fn f(a: int, b: bool, c: bytes): bytes { }\n", []api.Func{{
			Name: "f", Params: []api.Param{param("a", api.TypeInt), param("b", api.TypeBool), param("c", api.TypeBytes)}, Result: api.TypeBytes,
		}}},
		{"fn f(a: bool): bool { }\n", []api.Func{{Name: "f", Params: []api.Param{param("a", api.TypeBool)}, Result: api.TypeBool}}},
		// Types that there are not.
		{"fn f(a: , b: ):  { }\n", []api.Func{{Name: "f", Params: []api.Param{param("a", api.TypeNone), param("b", 4)}, Result: -1}}},
	} {
		if s := Show(api.Program{Funcs: c.funcs}); s != c.want {
			t.Errorf("Show(%+v) = %q; want %q", c.funcs, s, c.want)
		}
	}
}

// mustShow fails unless statements are shown as this text within a block.
func mustShow(t *testing.T, want string, body ...api.Stmt) {
	t.Helper()
	want = "fn f() {" + want + " }\n"
	if s := Show(api.Program{Funcs: []api.Func{{Name: "f", Body: body}}}); s != want {
		t.Errorf("Show of %+v = %q; want %q", body, s, want)
	}
}

func TestShowStatements(t *testing.T) {
	a, b := name("a", 0), two("+", 0, num(1, 0), num(2, 0))
	mustShow(t, " let x = a;", stmt(api.StmtLet, "x", 0, a))
	mustShow(t, " x = (1 + 2);", stmt(api.StmtSet, "x", 0, b))
	mustShow(t, " return;", stmt(api.StmtReturn, "", 0))
	mustShow(t, " return a;", stmt(api.StmtReturn, "", 0, a))
	mustShow(t, " return (1 + 2);", stmt(api.StmtReturn, "", 0, b))
	mustShow(t, " return a;", stmt(api.StmtReturn, "", 0, a, b))
	mustShow(t, " put(a, (1 + 2));", stmt(api.StmtPut, "", 0, a, b))
	mustShow(t, " del((1 + 2));", stmt(api.StmtDel, "", 0, b))
	mustShow(t, " a;", stmt(api.StmtDo, "", 0, a))
	mustShow(t, " a; (1 + 2);", stmt(api.StmtDo, "", 0, a), stmt(api.StmtDo, "", 0, b))

	body := []api.Stmt{stmt(api.StmtDo, "", 0, a), stmt(api.StmtReturn, "", 0)}
	mustShow(t, " if a { }", api.Stmt{Op: api.StmtIf, Exprs: []api.Expr{a}})
	mustShow(t, " if (1 + 2) { a; return; }", api.Stmt{Op: api.StmtIf, Exprs: []api.Expr{b}, Body: body})
	mustShow(t, " if a { }", api.Stmt{Op: api.StmtIf, Exprs: []api.Expr{a}, Else: []api.Stmt{}})
	mustShow(t, " if a { } else { a; return; }", api.Stmt{Op: api.StmtIf, Exprs: []api.Expr{a}, Else: body})
	mustShow(t, " if a { a; return; } else { a; }", api.Stmt{Op: api.StmtIf, Exprs: []api.Expr{a}, Body: body, Else: body[:1]})
	mustShow(t, " for i = a to (1 + 2) { }", api.Stmt{Op: api.StmtFor, Text: "i", Exprs: []api.Expr{a, b}})
	mustShow(t, " for i = (1 + 2) to a { a; return; }", api.Stmt{Op: api.StmtFor, Text: "i", Exprs: []api.Expr{b, a}, Body: body})
}

func TestShowExpressions(t *testing.T) {
	a, b := name("a", 0), name("b", 0)
	for _, c := range []struct {
		want string
		expr api.Expr
	}{
		{"0", num(0, 0)},
		{"9223372036854775807", num(1<<63-1, 0)},
		{"-9223372036854775808", num(-1<<63, 0)},
		{"true", truth(1, 0)},
		{"false", truth(0, 0)},
		{"false", truth(2, 0)},
		{"false", truth(-1, 0)},
		{`"a b"`, text("a b", 0)},
		{`""`, text("", 0)},
		{"a", a},
		{"g()", call("g", 0)},
		{"g(a)", call("g", 0, a)},
		{"g(a, h(), b)", call("g", 0, a, call("h", 0), b)},
		{"get(a)", of(api.ExprGet, 0, a)},
		{"has(a)", of(api.ExprHas, 0, a)},
		{"len((a * b))", of(api.ExprLen, 0, two("*", 0, a, b))},
		{"-a", one("-", 0, a)},
		{"--!a", one("-", 0, one("-", 0, one("!", 0, a)))},
		{"!(a || b)", one("!", 0, two("||", 0, a, b))},
		{"((a - b) - (b - a))", two("-", 0, two("-", 0, a, b), two("-", 0, b, a))},
		{"(-a + g(a))", two("+", 0, one("-", 0, a), call("g", 0, a))},
		// Others than a parsed program has.
		{"(a  b)", two("", 0, a, b)},
		{"-1", one("-", 0, num(1, 0))},
		{"--1", one("-", 0, num(-1, 0))},
		{"(a + b)", api.Expr{Op: api.ExprTwo, Text: "+", Kids: []api.Expr{a, b, a}}},
		{"-a", api.Expr{Op: api.ExprOne, Text: "-", Kids: []api.Expr{a, b}}},
		{"get(a)", of(api.ExprGet, 0, a, b)},
	} {
		mustShow(t, " "+c.want+";", stmt(api.StmtDo, "", 0, c.expr))
	}
}

func TestShowWithoutParts(t *testing.T) {
	a := name("a", 0)
	mustShow(t, " let x = ;", stmt(api.StmtLet, "x", 0))
	mustShow(t, " x = ;", stmt(api.StmtSet, "x", 0))
	mustShow(t, " if  { }", stmt(api.StmtIf, "", 0))
	mustShow(t, " for i =  to  { }", stmt(api.StmtFor, "i", 0))
	mustShow(t, " for i = a to  { }", stmt(api.StmtFor, "i", 0, a))
	mustShow(t, " put(, );", stmt(api.StmtPut, "", 0))
	mustShow(t, " put(a, );", stmt(api.StmtPut, "", 0, a))
	mustShow(t, " del();", stmt(api.StmtDel, "", 0))
	mustShow(t, " ;", stmt(api.StmtDo, "", 0))
	for want, e := range map[string]api.Expr{
		"( + )":  {Op: api.ExprTwo, Text: "+"},
		"(a + )": {Op: api.ExprTwo, Text: "+", Kids: []api.Expr{a}},
		"!":      {Op: api.ExprOne, Text: "!"},
		"get()":  {Op: api.ExprGet},
		"has()":  {Op: api.ExprHas},
		"len()":  {Op: api.ExprLen},
	} {
		mustShow(t, " "+want+";", stmt(api.StmtDo, "", 0, e))
	}
}

func TestShowUnknownKinds(t *testing.T) {
	a := name("a", 0)
	for _, op := range []api.StmtOp{0, -1, 9, 100, -1 << 63, 1<<63 - 1} {
		s := api.Stmt{Op: op, Text: "x", Exprs: []api.Expr{a, a}, Body: []api.Stmt{stmt(api.StmtDo, "", 0, a)}}
		mustShow(t, " ", s)
		mustShow(t, " a;  a;", stmt(api.StmtDo, "", 0, a), s, stmt(api.StmtDo, "", 0, a))
	}
	for _, op := range []api.ExprOp{0, -1, 11, 100, -1 << 63, 1<<63 - 1} {
		e := api.Expr{Op: op, Num: 1, Text: "x", Kids: []api.Expr{a, a}}
		mustShow(t, " ;", stmt(api.StmtDo, "", 0, e))
		mustShow(t, " return ;", stmt(api.StmtReturn, "", 0, e))
		mustShow(t, " put(a, );", stmt(api.StmtPut, "", 0, a, e))
		mustShow(t, " ( + a);", stmt(api.StmtDo, "", 0, two("+", 0, e, a)))
		mustShow(t, " g(, a);", stmt(api.StmtDo, "", 0, call("g", 0, e, a)))
	}
}

// What is nested far deeper than a parsed program is shown, too.
func TestShowDeep(t *testing.T) {
	const levels = 1 << 15
	e, s := num(1, 0), stmt(api.StmtReturn, "", 0)
	for range levels {
		e = one("-", 0, e)
		s = api.Stmt{Op: api.StmtIf, Exprs: []api.Expr{num(1, 0)}, Else: []api.Stmt{s}}
	}
	mustShow(t, " "+strings.Repeat("-", levels)+"1;", stmt(api.StmtDo, "", 0, e))
	mustShow(t, " "+strings.Repeat("if 1 { } else { ", levels)+"return;"+strings.Repeat(" }", levels), s)
}

// The source is neither changed nor kept, and the bytes behind it are not looked at.
func TestSourceStays(t *testing.T) {
	src := []byte(`fn f(a: int): bytes { let x = "ab"; g(x, a); return x; }`)
	whole := append(bytes.Clone(src), " fn g() { }"...)
	before := bytes.Clone(whole)
	p, e, at := Parse(whole[:len(src)])
	if e != api.OK || at != 0 || len(p.Funcs) != 1 || !bytes.Equal(whole, before) {
		t.Fatalf("Parse: %v, %d, %d functions; the source after it is %q", e, at, len(p.Funcs), whole)
	}
	shown := Show(p)
	clear(whole)
	if Show(p) != shown {
		t.Errorf("the program keeps the source: %q, then %q", shown, Show(p))
	}
}

// The lists of a program share no memory with one another.
func TestListsApart(t *testing.T) {
	p, e, _ := Parse([]byte("fn f(a: int, b: int, c: int) { g(1, 2, 3); g(1, 2, 3); g(4); } fn g(a: int, b: int, c: int) { }"))
	if e != api.OK {
		t.Fatal(e)
	}
	before := Show(p)
	body := p.Funcs[0].Body
	_ = append(body, stmt(api.StmtDo, "", 0, num(9, 0)))
	_ = append(p.Funcs[0].Params, api.Param{Name: "x"})
	for _, s := range body {
		_ = append(s.Exprs, num(9, 0))
		_ = append(s.Exprs[0].Kids, num(9, 0))
	}
	if Show(p) != before {
		t.Errorf("%q, then %q", before, Show(p))
	}
	q, _, _ := Parse([]byte(before))
	body[0].Exprs[0].Kids[0].Num = 7
	if Show(q) != before {
		t.Errorf("two programs share memory: %q", Show(q))
	}
}

// Show changes nothing of the program that it is given.
func TestProgramStays(t *testing.T) {
	src := []byte("fn f(a: int) { if a { x = 1 + g(2, 3); } else { put(a, b); } } fn g(): int { return len(a); }")
	p, _, _ := Parse(src)
	q, _, _ := Parse(src)
	if a, b := Show(p), Show(p); a != b || !reflect.DeepEqual(p, q) {
		t.Errorf("Show: %q, then %q, of %+v", a, b, p)
	}
}
