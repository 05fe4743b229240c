package token

import (
	"bytes"
	"math"
	"math/rand"
	"regexp"
	"slices"
	"strconv"
	"strings"
	"testing"

	"covenant/api"
)

// What the document lists, written out once more.
const (
	allWords = "fn let if else for to return put del get has len true false int bool bytes"
	allSigns = "== != <= >= && || ( ) { } , ; : = < > + - * / % !"
)

func name(text string, at int) api.Token { return api.Token{Kind: api.TokName, Text: text, At: at} }

func num(n int64, at int) api.Token { return api.Token{Kind: api.TokNum, Num: n, At: at} }

func text(s string, at int) api.Token { return api.Token{Kind: api.TokText, Text: s, At: at} }

func sign(s string, at int) api.Token { return api.Token{Kind: api.TokSign, Text: s, At: at} }

// mustLex fails unless the tokens of a source are these.
func mustLex(t *testing.T, src string, want ...api.Token) {
	t.Helper()
	if l, e, at := Lex([]byte(src)); e != api.OK || at != 0 || !slices.Equal(l, want) {
		t.Errorf("Lex(%.80q) = %v, %v, %d; want %v", src, l, e, at, want)
	}
}

// mustRefuse fails unless a source has this error at this offset, and nothing beside it.
func mustRefuse(t *testing.T, src string, want api.Errno, where int) {
	t.Helper()
	if l, e, at := Lex([]byte(src)); l != nil || e != want || at != where {
		t.Errorf("Lex(%.80q) = %d tokens (nil %v), %v, %d; want nil, %v, %d", src, len(l), l == nil, e, at, want, where)
	}
}

// mustWrong fails unless a token yields an error wherever it begins: at the start, after white space, and after other tokens.
func mustWrong(t *testing.T, wrong string, want api.Errno) {
	t.Helper()
	for _, ahead := range []string{"", " ", "\n\t\r ", "# \"\n", "a ", "a+", "12 <=", `"b"`, "fn f() { "} {
		mustRefuse(t, ahead+wrong, want, len(ahead))
	}
}

// Tokens as regular expressions; of the signs, the long ones stand ahead.
var (
	space   = regexp.MustCompile(`\A(?:[\t\n\r ]|#[^\n]*)+`)
	tokName = regexp.MustCompile(`\A[a-z][a-z0-9_]*`)
	tokNum  = regexp.MustCompile(`\A[0-9]+`)
	tokText = regexp.MustCompile(`\A"[\x20\x21\x23-\x5B\x5D-\x7E]*"`)
	tokSign = regexp.MustCompile(`\A(?:==|!=|<=|>=|&&|\|\||[(){},;:=<>+*/%!-])`)
)

// oneByPattern is the token with which s begins, and how many bytes it has.
func oneByPattern(s []byte) (api.Token, int, api.Errno) {
	if m := tokName.Find(s); m != nil {
		kind := api.TokName
		if slices.Contains(strings.Fields(allWords), string(m)) {
			kind = api.TokSign
		}
		if len(m) > 16 {
			return api.Token{}, 0, api.ErrLong
		}
		return api.Token{Kind: kind, Text: string(m)}, len(m), api.OK
	}
	if m := tokNum.Find(s); m != nil {
		n, err := strconv.ParseInt(string(m), 10, 64)
		if err != nil {
			return api.Token{}, 0, api.ErrLong
		}
		return num(n, 0), len(m), api.OK
	}
	if m := tokText.Find(s); m != nil {
		if len(m) > 64+2 {
			return api.Token{}, 0, api.ErrLong
		}
		return text(string(m[1:len(m)-1]), 0), len(m), api.OK
	}
	if m := tokSign.Find(s); m != nil {
		return sign(string(m), 0), len(m), api.OK
	}
	return api.Token{}, 0, api.ErrToken
}

// lexByPattern is what Lex must return.
func lexByPattern(src []byte) ([]api.Token, api.Errno, int) {
	if len(src) > 4096 {
		return nil, api.ErrTooMany, 0
	}
	var l []api.Token
	at := len(space.Find(src))
	for at < len(src) {
		one, n, e := oneByPattern(src[at:])
		if e == api.OK && len(l) == 2048 {
			e = api.ErrTooMany
		}
		if e != api.OK {
			return nil, e, at
		}
		one.At = at
		l = append(l, one)
		at += n
		at += len(space.Find(src[at:]))
	}
	return l, api.OK, 0
}

// mustBeByPattern fails unless Lex returns what the patterns say.
func mustBeByPattern(t *testing.T, src []byte) {
	t.Helper()
	want, wantE, wantAt := lexByPattern(src)
	l, e, at := Lex(src)
	if !slices.Equal(l, want) || e != wantE || at != wantAt || e != api.OK && l != nil {
		t.Fatalf("Lex(%q) = %v, %v, %d; want %v, %v, %d", src, l, e, at, want, wantE, wantAt)
	}
}

// P3.1, T1: the document's examples, and ordinary programs.
func TestExamples(t *testing.T) {
	mustLex(t, "x<=12 # y", name("x", 0), sign("<=", 1), num(12, 3))
	mustRefuse(t, `"a`, api.ErrToken, 0)
	mustLex(t, "fn", sign("fn", 0))
	mustLex(t, "fn f() { 1 }", sign("fn", 0), name("f", 3), sign("(", 4), sign(")", 5), sign("{", 7), num(1, 9), sign("}", 11))
	mustLex(t, "1 / 0", num(1, 0), sign("/", 2), num(0, 4))
	mustLex(t, "put \"k\", x + 1; # keep\nreturn -x;",
		sign("put", 0), text("k", 4), sign(",", 7), name("x", 9), sign("+", 11), num(1, 13), sign(";", 14),
		sign("return", 23), sign("-", 30), name("x", 31), sign(";", 32))
	mustLex(t, "if a && !b || has(\"x\") { del \"y\"; } else { }",
		sign("if", 0), name("a", 3), sign("&&", 5), sign("!", 8), name("b", 9), sign("||", 11), sign("has", 14), sign("(", 17), text("x", 18), sign(")", 21), sign("{", 23),
		sign("del", 25), text("y", 29), sign(";", 32), sign("}", 34), sign("else", 36), sign("{", 41), sign("}", 43))
}

// P3.1, T1: a source without a token has none.
func TestNoTokens(t *testing.T) {
	for _, src := range []string{"", " ", "\t", "\n", "\r", "\t\n\r ", "#", "##", "#\n", "# a", "# \"", "#\n#", "# \x00\xff\\", "\n# fn f() { }\n\n#", strings.Repeat(" ", 4096), "#" + strings.Repeat("a", 4095)} {
		mustLex(t, src)
	}
	if l, e, at := Lex(nil); len(l) != 0 || e != api.OK || at != 0 {
		t.Errorf("Lex(nil) = %v, %v, %d", l, e, at)
	}
}

// P3.1, T1: MaxSource bytes and one more. More are refused whatever they are.
func TestSourceLength(t *testing.T) {
	mustLex(t, strings.Repeat(" ", 4095)+"a", name("a", 4095))
	mustLex(t, "a"+strings.Repeat(" ", 4095), name("a", 0))
	mustRefuse(t, strings.Repeat(" ", 4096)+"a", api.ErrTooMany, 0)
	mustRefuse(t, "a"+strings.Repeat(" ", 4096), api.ErrTooMany, 0)
	mustRefuse(t, strings.Repeat(" ", 4097), api.ErrTooMany, 0)
	mustRefuse(t, " @"+strings.Repeat(" ", 4095), api.ErrTooMany, 0)
	mustRefuse(t, strings.Repeat("a", 4097), api.ErrTooMany, 0)
	mustRefuse(t, strings.Repeat("\"", 1<<20), api.ErrTooMany, 0)
	mustRefuse(t, strings.Repeat("a", 4096), api.ErrLong, 0)
	mustRefuse(t, strings.Repeat(" ", 4095)+"@", api.ErrToken, 4095)
}

// P3.1, T1.
func TestNames(t *testing.T) {
	for _, s := range []string{"a", "z", "m", "ab", "a0", "a9", "z_", "a_b_c", "a__", "abcdefghijklmnop", "a234567890123456", "a_______________", "x1y2", "return_value_123"} {
		mustLex(t, s, name(s, 0))
		mustLex(t, " "+s+";", name(s, 1), sign(";", 1+len(s)))
	}
	for _, s := range []string{"abcdefghijklmnopq", "a2345678901234567", "a________________", "fnfnfnfnfnfnfnfnf", strings.Repeat("a", 100)} {
		mustWrong(t, s, api.ErrLong)
		mustWrong(t, s+" b", api.ErrLong)
	}
	mustLex(t, "abcdefghijklmnop q", name("abcdefghijklmnop", 0), name("q", 17))
	// What can't be in a name ends it.
	mustLex(t, "a\"b\"", name("a", 0), text("b", 1))
	mustLex(t, "a#b", name("a", 0))
	mustLex(t, "a-b", name("a", 0), sign("-", 1), name("b", 2))
	mustLex(t, "0a", num(0, 0), name("a", 1))
	for _, s := range []string{"A", "Z", "_", "_a", "Fn", "`", "\xc3\xa4", "@a"} {
		mustWrong(t, s, api.ErrToken)
	}
	mustRefuse(t, "aB", api.ErrToken, 1)
	mustRefuse(t, "a\xc3\xa4", api.ErrToken, 1)
	mustRefuse(t, "1_0", api.ErrToken, 1)
}

// P3.1, T1, T2: each keyword is a sign; with a letter, a digit or a `_` behind it, it is a name.
func TestKeywords(t *testing.T) {
	for _, w := range strings.Fields(allWords) {
		mustLex(t, w, sign(w, 0))
		mustLex(t, " "+w+" ", sign(w, 1))
		mustLex(t, "("+w+")", sign("(", 0), sign(w, 1), sign(")", 1+len(w)))
		for _, behind := range []string{"a", "z", "s", "0", "9", "_", "_x", w} {
			mustLex(t, w+behind, name(w+behind, 0))
		}
		mustLex(t, "a"+w, name("a"+w, 0))
		mustLex(t, "1"+w, num(1, 0), sign(w, 1))
		mustLex(t, w[:1], name(w[:1], 0))
		mustRefuse(t, w+"A", api.ErrToken, len(w))
	}
}

// P3.1, T2.
func TestWord(t *testing.T) {
	for _, w := range strings.Fields(allWords) {
		if !Word(w) {
			t.Errorf("Word(%q) = false", w)
		}
		for _, s := range []string{w + "a", w + "0", w + "_", "a" + w, w + " ", " " + w, w + "\x00", strings.ToUpper(w), w + w, w[:1]} {
			if Word(s) {
				t.Errorf("Word(%q) = true", s)
			}
		}
	}
	for _, s := range slices.Concat(strings.Fields(allSigns), []string{"", " ", "byte", "ret", "whil", "while", "var", "func", "string", "nil", "els", "a", "x_1", "1", "\"fn\"", allWords, "fn let", strings.Repeat("fn", 1<<16)}) {
		if Word(s) {
			t.Errorf("Word(%.40q) = true", s)
		}
	}
	if n := len(strings.Fields(allWords)); n != 17 || len(keywords) != 17 {
		t.Errorf("%d keywords, %d in the table", n, len(keywords))
	}
}

// P3.1, T1.
func TestNumbers(t *testing.T) {
	noughts := strings.Repeat("0", 4000)
	for _, c := range []struct {
		src  string
		want int64
	}{
		{"0", 0}, {"00", 0}, {"7", 7}, {"9", 9}, {"10", 10}, {"12", 12}, {"007", 7}, {"1234567890", 1234567890}, {"4294967296", 1 << 32},
		{"922337203685477580", 922337203685477580}, {"9223372036854775799", math.MaxInt64 - 8}, {"9223372036854775800", math.MaxInt64 - 7},
		{"9223372036854775806", math.MaxInt64 - 1}, {"9223372036854775807", math.MaxInt64},
		{"09223372036854775807", math.MaxInt64}, {noughts, 0}, {noughts + "1", 1}, {noughts + "9223372036854775807", math.MaxInt64},
	} {
		mustLex(t, c.src, num(c.want, 0))
		mustLex(t, " "+c.src+";", num(c.want, 1), sign(";", 1+len(c.src)))
	}
	for _, s := range []string{
		"9223372036854775808", "9223372036854775809", "9223372036854775810", "9223372036854775817", "9999999999999999999", "10000000000000000000",
		"18446744073709551615", "18446744073709551616", "18446744073709551617", "36893488147419103232", "92233720368547758070", "100000000000000000000000000000000",
		"09223372036854775808", noughts + "9223372036854775808", noughts + "18446744073709551616", strings.Repeat("9", 4000),
	} {
		mustWrong(t, s, api.ErrLong)
	}
	mustLex(t, "-9223372036854775807", sign("-", 0), num(math.MaxInt64, 1))
	mustRefuse(t, "-9223372036854775808", api.ErrLong, 1)
	mustLex(t, "1 2", num(1, 0), num(2, 2))
	mustLex(t, "0x10", num(0, 0), name("x10", 1))
	mustRefuse(t, "1.5", api.ErrToken, 1)
}

// P3.1, T1.
func TestStrings(t *testing.T) {
	inside := ""
	for c := byte(32); c <= 126; c++ {
		if c != '"' && c != '\\' {
			inside += string(c)
		}
	}
	full := strings.Repeat("x", 64)
	for _, s := range []string{"", "a", " ", "a b", "#", "# a", "fn", "12", "==", "'", "~", inside[:64], inside[len(inside)-64:], full, strings.Repeat(" ", 64)} {
		mustLex(t, `"`+s+`"`, text(s, 0))
		mustLex(t, `a"`+s+`"b`, name("a", 0), text(s, 1), name("b", 3+len(s)))
	}
	mustLex(t, `"a""b"`, text("a", 0), text("b", 3))
	mustLex(t, `"#" # "`, text("#", 0))
	for _, s := range []string{full + "x", inside, strings.Repeat("x", 4000), strings.Repeat("#", 65)} {
		mustWrong(t, `"`+s+`"`, api.ErrLong)
		// One that is not terminated is no token, however long.
		mustWrong(t, `"`+s, api.ErrToken)
		mustWrong(t, `"`+s+"\n\"", api.ErrToken)
	}
	for _, s := range []string{`"`, `"a`, `"a b`, `"#`, `"a' `, `"` + full, "\"a\nb\"", `"a\"`, `"\"`, `"\\"`, `"a\n"`, "\"a\n"} {
		mustWrong(t, s, api.ErrToken)
	}
	mustRefuse(t, `""" `, api.ErrToken, 2)
	mustRefuse(t, `"a"b"`, api.ErrToken, 4)
	mustRefuse(t, `'a'`, api.ErrToken, 0)
}

// P3.1, T1: each byte in a string.
func TestBytesOfStrings(t *testing.T) {
	for c := range 256 {
		one := string([]byte{byte(c)})
		switch {
		case c == '"':
			mustRefuse(t, `"a`+one+`b"`, api.ErrToken, 4)
		case c < 32 || c > 126 || c == '\\':
			mustWrong(t, `"`+one+`"`, api.ErrToken)
			mustWrong(t, `"a`+one+`b"`, api.ErrToken)
			mustWrong(t, `"`+one, api.ErrToken)
		default:
			mustLex(t, `"a`+one+`b"`, text("a"+one+"b", 0))
			mustLex(t, `"`+one+`"`, text(one, 0))
		}
	}
}

// P3.1, T1: each sign, also one that begins a longer one, and `&` or `|` alone.
func TestSigns(t *testing.T) {
	all := strings.Fields(allSigns)
	if len(all) != 22 || len(signs) != 22 {
		t.Errorf("%d signs, %d in the table", len(all), len(signs))
	}
	for _, s := range all {
		mustLex(t, s, sign(s, 0))
		mustLex(t, " "+s+" ", sign(s, 1))
		mustLex(t, "a"+s+"b", name("a", 0), sign(s, 1), name("b", 1+len(s)))
		mustLex(t, s+"\"=\"", sign(s, 0), text("=", len(s)))
	}
	for _, s := range []string{"=", "!", "<", ">"} {
		mustLex(t, s+"=", sign(s+"=", 0))
		mustLex(t, s+" =", sign(s, 0), sign("=", 2))
		mustLex(t, s+"==", sign(s+"=", 0), sign("=", 2))
		mustLex(t, s+"===", sign(s+"=", 0), sign("==", 2))
		mustLex(t, s+"!=", sign(s, 0), sign("!=", 1))
		mustLex(t, s+"#\n=", sign(s, 0), sign("=", 3))
	}
	mustLex(t, "=<", sign("=", 0), sign("<", 1))
	mustLex(t, "=!", sign("=", 0), sign("!", 1))
	mustLex(t, "!!", sign("!", 0), sign("!", 1))
	mustLex(t, "<<>>", sign("<", 0), sign("<", 1), sign(">", 2), sign(">", 3))
	mustLex(t, "--+", sign("-", 0), sign("-", 1), sign("+", 2))
	mustLex(t, "&&&&", sign("&&", 0), sign("&&", 2))
	mustLex(t, "||&&", sign("||", 0), sign("&&", 2))
	for _, s := range []string{"&", "|", "& &", "| |", "&|", "|&", "&=", "|=", "&a", "|1", "&#&", "|\n|"} {
		mustWrong(t, s, api.ErrToken)
	}
	mustRefuse(t, "&&&", api.ErrToken, 2)
	mustRefuse(t, "|||", api.ErrToken, 2)
	mustRefuse(t, "a &b", api.ErrToken, 2)
}

// P3.1, T1: each byte alone, and each pair of bytes.
func TestEachByte(t *testing.T) {
	for c := range 256 {
		b := byte(c)
		switch {
		case strings.IndexByte("\t\n\r #", b) >= 0:
			mustLex(t, string([]byte{b}))
		case 'a' <= b && b <= 'z':
			mustLex(t, string([]byte{b}), name(string([]byte{b}), 0))
		case '0' <= b && b <= '9':
			mustLex(t, string([]byte{b}), num(int64(b-'0'), 0))
		case strings.IndexByte("(){},;:=<>+-*/%!", b) >= 0:
			mustLex(t, string([]byte{b}), sign(string([]byte{b}), 0))
		default:
			mustWrong(t, string([]byte{b}), api.ErrToken)
		}
		for d := range 256 {
			mustBeByPattern(t, []byte{b, byte(d)})
			mustBeByPattern(t, []byte{'a', b, byte(d), 'b'})
		}
	}
}

// P3.1, T1: a comment extends to the next byte 10, or to the end.
func TestComments(t *testing.T) {
	mustLex(t, "a#", name("a", 0))
	mustLex(t, "a#b", name("a", 0))
	mustLex(t, "a#\nb", name("a", 0), name("b", 3))
	mustLex(t, "a# \" @ & fn\nb", name("a", 0), name("b", 12))
	mustLex(t, "#a\n#b\nc", name("c", 6))
	mustLex(t, "#a#\nb", name("b", 4))
	mustLex(t, "##\nb##", name("b", 3))
	mustLex(t, "#\n#\n#")
	mustLex(t, "#\rb")
	mustLex(t, "#\r\nb", name("b", 3))
	mustLex(t, "#\x00\xff\\\nb", name("b", 5))
	mustLex(t, "12#3\n4", num(12, 0), num(4, 5))
	mustRefuse(t, "#\n@", api.ErrToken, 2)
	mustRefuse(t, "#\n\"# \n\"", api.ErrToken, 2)
}

// P3.1, T1: MaxTokens tokens and one more, of each kind.
func TestTokenCount(t *testing.T) {
	for _, one := range []string{"; ", "a ", "1 ", "! "} {
		most := strings.Repeat(one, 2048)
		if l, e, at := Lex([]byte(most)); len(l) != 2048 || e != api.OK || at != 0 {
			t.Errorf("%d tokens, %v, %d", len(l), e, at)
		}
	}
	many := strings.Repeat(";", 2048)
	if l, e, at := Lex([]byte(many + " # ;\n")); len(l) != 2048 || e != api.OK || at != 0 || l[2047] != sign(";", 2047) {
		t.Errorf("%d tokens, %v, %d", len(l), e, at)
	}
	for _, more := range []string{";", "a", "fn", "1", `""`, "==", "abcdefghijklmnop", "9223372036854775807", "; @", ";;;;", "a \""} {
		mustRefuse(t, many+more, api.ErrTooMany, 2048)
		mustRefuse(t, many+" \n"+more, api.ErrTooMany, 2050)
	}
	mustRefuse(t, strings.Repeat(";", 4096), api.ErrTooMany, 2048)
	mustRefuse(t, strings.Repeat("==", 2048)[:4094]+";;", api.ErrTooMany, 4095)
}

// P3.1, T1, P2: what is named first is returned, if the token after MaxTokens is a wrong one.
func TestErrorsInTheirOrder(t *testing.T) {
	many := strings.Repeat(";", 2048)
	mustRefuse(t, many+"@", api.ErrToken, 2048)
	mustRefuse(t, many+" \"a", api.ErrToken, 2049)
	mustRefuse(t, many+"&", api.ErrToken, 2048)
	mustRefuse(t, many+"abcdefghijklmnopq", api.ErrLong, 2048)
	mustRefuse(t, many+" 9223372036854775808", api.ErrLong, 2049)
	mustRefuse(t, many+`"`+strings.Repeat("x", 65)+`"`, api.ErrLong, 2048)
	mustRefuse(t, many+`"`+strings.Repeat("x", 65), api.ErrToken, 2048)
	// The first wrong token is the one, whatever follows.
	mustRefuse(t, "a @ abcdefghijklmnopq", api.ErrToken, 2)
	mustRefuse(t, "a abcdefghijklmnopq @", api.ErrLong, 2)
	mustRefuse(t, "9223372036854775808 \"a", api.ErrLong, 0)
	mustRefuse(t, "@"+many+";", api.ErrToken, 0)
}

// pieces is tokens as they stand in a source; of two that follow each other, white space must stand between if they would be read as one.
func pieces() []string {
	return slices.Concat(strings.Fields(allWords), strings.Fields(allSigns), strings.Fields(allWords+" a x_1 abcdefghijklmnop z9 0 12 007 9223372036854775807"), []string{`""`, `"a b"`, `"#"`, `"` + strings.Repeat("y", 64) + `"`})
}

// spaces is white space of all sorts; that which ends with a comment needs a byte 10 behind it.
func spaces() []string {
	return []string{" ", "\t", "\n", "\r", "  ", "\r\n", " \t\r\n ", "#\n", "# a b\n", " # \"@&\n\t", "#\n#\n", "#\xff\r#\n "}
}

// P3.2: tokens are returned in order, with the offsets at which they were put; other white space changes only these.
func TestOrderAndWhiteSpace(t *testing.T) {
	source := rand.New(rand.NewSource(4))
	all, between := pieces(), spaces()
	for range 3000 {
		row := make([]string, source.Intn(12))
		for i := range row {
			row[i] = all[source.Intn(len(all))]
		}
		var plain []api.Token
		for range 3 {
			src, offsets := "", []int{}
			for _, s := range row {
				src += between[source.Intn(len(between))]
				offsets = append(offsets, len(src))
				src += s
			}
			src += []string{"", " ", "#", "\n"}[source.Intn(4)]
			l, e, at := Lex([]byte(src))
			if e != api.OK || at != 0 || len(l) != len(row) {
				t.Fatalf("Lex(%q) = %v, %v, %d", src, l, e, at)
			}
			for i := range l {
				alone, _, _ := Lex([]byte(row[i]))
				if len(alone) != 1 || l[i].At != offsets[i] {
					t.Fatalf("Lex(%q): token %d is %v, want %q at %d", src, i, l[i], row[i], offsets[i])
				}
				l[i].At = 0
				if l[i] != alone[0] {
					t.Fatalf("Lex(%q): token %d is %v, want %v", src, i, l[i], alone[0])
				}
			}
			if plain == nil {
				plain = l
			}
			if !slices.Equal(plain, l) {
				t.Fatalf("Lex(%q) = %v, want %v", src, l, plain)
			}
		}
	}
}

// P3.2: white space may lack where two tokens are not read as one.
func TestNoWhiteSpace(t *testing.T) {
	const spaced = "fn f ( a : int , b : bytes ) : bool { let x = a + 12 * len ( b ) ; if x <= 3 && ! ( x == 2 ) { return true ; } }"
	wide, e, _ := Lex([]byte(spaced))
	dense, f, _ := Lex([]byte("fn f(a:int,b:bytes):bool{let x=a+12*len(b);if x<=3&&!(x==2){return true;}}"))
	if e != api.OK || f != api.OK || len(wide) != len(strings.Fields(spaced)) || len(dense) != len(wide) {
		t.Fatal(e, f, len(wide), len(dense))
	}
	for i := range wide {
		if i > 0 && (wide[i].At <= wide[i-1].At || dense[i].At <= dense[i-1].At) {
			t.Errorf("token %d is out of order", i)
		}
		if wide[i].At = dense[i].At; wide[i] != dense[i] {
			t.Errorf("token %d: %v, %v", i, wide[i], dense[i])
		}
	}
}

// P3.1, P3.2, P1: sources made at random are read as the patterns say.
func TestRandomSources(t *testing.T) {
	source := rand.New(rand.NewSource(5))
	letters := []byte("ab_z09 \"\\#\n\t\r=!<>&|(){},;:+-*/%A.~\x00\x7f\xff")
	parts := slices.Concat(pieces(), spaces(), []string{"&", "|", "@", `"`, "\\", "abcdefghijklmnopq", "9223372036854775808", `"` + strings.Repeat("y", 65) + `"`})
	for range 20000 {
		b := make([]byte, source.Intn(30))
		for i := range b {
			b[i] = letters[source.Intn(len(letters))]
		}
		mustBeByPattern(t, b)
		b = b[:0]
		for range source.Intn(10) {
			b = append(b, parts[source.Intn(len(parts))]...)
		}
		mustBeByPattern(t, b)
		source.Read(b)
		mustBeByPattern(t, b)
	}
	for i := range 200 {
		mustBeByPattern(t, bytes.Repeat([]byte(parts[i%len(parts)]), 4096/len(parts[i%len(parts)])+i%2))
	}
}

// P3: what was passed is left as it was, its spare capacity too, and a result shares no memory with it or with another result.
func TestNothingIsShared(t *testing.T) {
	const src = "fn abc 12 \"text\" <= "
	whole := []byte("zz" + src + "spare")
	want := []api.Token{sign("fn", 0), name("abc", 3), num(12, 7), text("text", 10), sign("<=", 17)}
	first, e, _ := Lex(whole[2 : 2+len(src)])
	second, _, _ := Lex(whole[2 : 2+len(src)])
	if e != api.OK || string(whole) != "zz"+src+"spare" {
		t.Errorf("%v %q", e, whole)
	}
	second = second[:cap(second)]
	for i := range second {
		second[i] = api.Token{}
	}
	for i := range whole {
		whole[i] = 'q'
	}
	if !slices.Equal(first, want) {
		t.Errorf("%v", first)
	}
	mustLex(t, src, want...)
	mustRefuse(t, "abc @", api.ErrToken, 4)
	mustLex(t, src, want...)
}

// P3: what lies in the spare capacity of a source is no part of it; what is refused is left as it was.
func TestSpareCapacity(t *testing.T) {
	whole := []byte("ab==cd\"e\"12")
	for n := range len(whole) + 1 {
		l, e, at := Lex(whole[:n])
		want, wantE, wantAt := lexByPattern(bytes.Clone(whole[:n]))
		if !slices.Equal(l, want) || e != wantE || at != wantAt {
			t.Errorf("Lex of %d bytes = %v, %v, %d; want %v, %v, %d", n, l, e, at, want, wantE, wantAt)
		}
	}
	if string(whole) != "ab==cd\"e\"12" {
		t.Errorf("%q", whole)
	}
}
