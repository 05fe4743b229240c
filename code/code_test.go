package code

import (
	"bytes"
	"fmt"
	"math"
	"slices"
	"strings"
	"testing"

	"covenant/api"
)

// num is the bytes of an integer; count those of a length.
func num(n int64) []byte {
	return append(count(int(uint64(n)>>32)), count(int(n))...)
}

func count(n int) []byte { return []byte{byte(n >> 24), byte(n >> 16), byte(n >> 8), byte(n)} }

func join(parts ...[]byte) []byte { return bytes.Join(parts, nil) }

// text is the bytes of a byte string; row those of a row.
func text(s string) []byte { return join(count(len(s)), []byte(s)) }

func row(l ...string) []byte {
	b := count(len(l))
	for _, s := range l {
		b = append(b, text(s)...)
	}
	return b
}

// written is a module's bytes as the document tells them, also of one that is not valid.
func written(m api.Module) []byte {
	b := num(int64(len(m.Codes)))
	for _, c := range m.Codes {
		b = append(append(b, text(c.Name)...), num(int64(len(c.Params)))...)
		for _, p := range c.Params {
			b = append(b, num(int64(p))...)
		}
		for _, n := range []int{int(c.Result), c.Slots, len(c.Instrs)} {
			b = append(b, num(int64(n))...)
		}
		for _, i := range c.Instrs {
			b = append(append(b, num(int64(i.Op))...), num(i.A)...)
		}
	}
	var texts []string
	for _, s := range m.Texts {
		texts = append(texts, string(s))
	}
	return append(b, row(texts...)...)
}

// same reports whether two modules are equal; an empty list is a nil one.
func same(a, b api.Module) bool {
	return slices.EqualFunc(a.Codes, b.Codes, sameCode) && slices.EqualFunc(a.Texts, b.Texts, bytes.Equal)
}

func sameCode(a, b api.Code) bool {
	return a.Name == b.Name && slices.Equal(a.Params, b.Params) && a.Result == b.Result && a.Slots == b.Slots && slices.Equal(a.Instrs, b.Instrs)
}

// none reports whether m is a zero module.
func none(m api.Module) bool { return len(m.Codes) == 0 && len(m.Texts) == 0 }

// show is a module as text, but not more of it than can be read.
func show(m api.Module) string {
	s := fmt.Sprintf("%#v", m)
	return s[:min(len(s), 4000)]
}

// with is an ordinary module, changed. It is new memory each time.
func with(change func(m *api.Module)) api.Module {
	m := api.Module{
		Codes: []api.Code{
			{Name: "add", Params: []api.Type{api.TypeInt, api.TypeInt}, Result: api.TypeInt, Slots: 3, Instrs: []api.Instr{
				{Op: api.OpLoad}, {Op: api.OpLoad, A: 1}, {Op: api.OpTwo, A: 1}, {Op: api.OpReturn},
			}},
			{Name: "", Result: api.TypeNone},
			{Name: "last", Params: []api.Type{api.TypeBytes, api.TypeBool, api.TypeInt}, Result: api.TypeBytes, Slots: 256, Instrs: []api.Instr{
				{Op: api.OpGas, A: 1}, {Op: api.OpText, A: 1}, {Op: api.OpNum, A: -5}, {Op: api.OpDrop}, {Op: api.OpReturn},
			}},
		},
		Texts: [][]byte{[]byte("ab"), {}, []byte("\x00\xff")},
	}
	change(&m)
	return m
}

func plain() api.Module { return with(func(*api.Module) {}) }

// one is a module with one Code.
func one(c api.Code) api.Module { return api.Module{Codes: []api.Code{c}} }

// typed is a Code with so many Params, and as many Slots.
func typed(n int) api.Code {
	return api.Code{Params: slices.Repeat([]api.Type{api.TypeBool}, n), Slots: n}
}

// long is a Code with so many Instrs.
func long(n int) api.Code {
	return api.Code{Instrs: slices.Repeat([]api.Instr{{Op: api.OpGas, A: 1}}, n)}
}

// named is a module and what it is called in a test.
type named struct {
	name string
	m    api.Module
}

// rightModules are valid modules, with the edges that the document names.
func rightModules() []named {
	l := []named{
		{"nothing", api.Module{}},
		{"empty lists", api.Module{Codes: []api.Code{}, Texts: [][]byte{}}},
		{"an ordinary module", plain()},
		{"an empty Code", one(api.Code{})},
		{"64 Codes", api.Module{Codes: make([]api.Code, 64)}},
		{"two Codes alike", api.Module{Codes: []api.Code{plain().Codes[0], plain().Codes[0]}}},
		{"1024 Texts", api.Module{Texts: make([][]byte, 1024)}},
		{"a Text of 64 bytes", api.Module{Texts: [][]byte{bytes.Repeat([]byte("x"), 64)}}},
		{"1024 Texts of 64 bytes", api.Module{Texts: slices.Repeat([][]byte{bytes.Repeat([]byte("x"), 64)}, 1024)}},
		{"two Texts alike", api.Module{Texts: [][]byte{[]byte("a"), []byte("a")}}},
		{"a Name of 16 bytes", one(api.Code{Name: "abcdefghijklmnop"})},
		{"a Name of 16 bytes, eight letters", one(api.Code{Name: strings.Repeat("\u00e4", 8)})},
		{"a Name that is no text", one(api.Code{Name: "\xff\x00\xc3"})},
		{"a Name with a keyword", one(api.Code{Name: "return"})},
		{"16 Params", one(typed(16))},
		{"16384 Instrs", one(long(16384))},
		{"two Codes with 16384 Instrs", api.Module{Codes: []api.Code{long(16384), long(16384)}}},
	}
	for t := api.TypeNone; t <= api.TypeBytes; t++ {
		l = append(l, named{"Result " + typeName(t), one(api.Code{Result: t})})
		if t != api.TypeNone {
			l = append(l, named{"Param " + typeName(t), one(api.Code{Params: []api.Type{t}, Slots: 1})})
		}
	}
	for n := range 17 {
		for _, slots := range []int{n, n + 1, 255, 256} {
			c := typed(n)
			c.Slots = slots
			l = append(l, named{"Slots", one(c)})
		}
	}
	for op := api.OpGas; op <= api.OpReturn; op++ {
		for _, a := range []int64{0, 1, -1, 255, 256, 1 << 32, 1 << 56, math.MaxInt64, math.MinInt64} {
			l = append(l, named{"an Op and A", one(api.Code{Instrs: []api.Instr{{Op: op, A: a}}})})
		}
	}
	return l
}

func typeName(t api.Type) string {
	if t >= 0 && t <= api.TypeBytes {
		return []string{"none", "int", "bool", "bytes"}[t]
	}
	return "another"
}

// wrongModules are modules that are not valid, for one reason each; their numbers of elements and byte strings are such as can be read.
func wrongModules() []named {
	l := []named{
		{"a Text of 65 bytes", api.Module{Texts: [][]byte{make([]byte, 65)}}},
		{"a last Text of 65 bytes", with(func(m *api.Module) { m.Texts[2] = make([]byte, 65) })},
		{"a Text of 65536 bytes", api.Module{Texts: [][]byte{make([]byte, 65536)}}},
		{"a Name of 17 bytes", one(api.Code{Name: "abcdefghijklmnopq"})},
		{"a Name of 18 bytes, nine letters", one(api.Code{Name: strings.Repeat("\u00e4", 9)})},
		{"a Name of 65536 bytes", one(api.Code{Name: strings.Repeat("x", 65536)})},
		{"a last Name of 17 bytes", with(func(m *api.Module) { m.Codes[2].Name = "abcdefghijklmnopq" })},
	}
	for _, n := range []int{-1, math.MinInt32, 4, 5, math.MaxInt32, -3} {
		l = append(l,
			named{"another Result", one(api.Code{Result: api.Type(n)})},
			named{"another last Result", with(func(m *api.Module) { m.Codes[2].Result = api.Type(n) })})
	}
	for _, n := range []int{-1, 0, math.MinInt32, 4, 5, math.MaxInt32} {
		for at := range 3 {
			l = append(l, named{"another Param", with(func(m *api.Module) { m.Codes[2].Params[at] = api.Type(n) })})
		}
		l = append(l, named{"another Param alone", one(api.Code{Params: []api.Type{api.Type(n)}, Slots: 1})})
	}
	for _, n := range []int{-1, -16, math.MinInt32, 257, 258, math.MaxInt32} {
		l = append(l,
			named{"other Slots", one(api.Code{Slots: n})},
			named{"other Slots of a last Code", with(func(m *api.Module) { m.Codes[2].Slots = n })})
	}
	for n := 1; n <= 16; n++ {
		c := typed(n)
		c.Slots = n - 1
		l = append(l, named{"one Slot fewer than Params", one(c)})
	}
	for _, n := range []int{0, -1, math.MinInt32, 19, 20, math.MaxInt32} {
		for at := range 5 {
			l = append(l, named{"another Op", with(func(m *api.Module) { m.Codes[2].Instrs[at].Op = api.Op(n) })})
		}
		l = append(l, named{"another Op alone", one(api.Code{Instrs: []api.Instr{{Op: api.Op(n), A: 1}}})})
	}
	return l
}

// greatModules are modules with too many elements, or a byte string that is too long for wire; with the error of their bytes.
func greatModules() []struct {
	named
	e api.Errno
} {
	huge := strings.Repeat("x", 65537)
	return []struct {
		named
		e api.Errno
	}{
		{named{"65 Codes", api.Module{Codes: make([]api.Code, 65)}}, api.ErrCode},
		{named{"1000 Codes", api.Module{Codes: make([]api.Code, 1000)}}, api.ErrCode},
		{named{"17 Params", one(typed(17))}, api.ErrCode},
		{named{"17 Params in a last Code", with(func(m *api.Module) { m.Codes[2].Params = typed(17).Params })}, api.ErrCode},
		{named{"256 Params", one(typed(256))}, api.ErrCode},
		{named{"16385 Instrs", one(long(16385))}, api.ErrCode},
		{named{"16385 Instrs in a last Code", with(func(m *api.Module) { m.Codes[2].Instrs = long(16385).Instrs })}, api.ErrCode},
		{named{"1025 Texts", api.Module{Texts: make([][]byte, 1025)}}, api.ErrTooMany},
		{named{"70000 Texts", api.Module{Texts: make([][]byte, 70000)}}, api.ErrTooMany},
		{named{"a huge Name", one(api.Code{Name: huge})}, api.ErrTooMany},
		{named{"a huge Text", api.Module{Texts: [][]byte{[]byte(huge)}}}, api.ErrTooMany},
	}
}

// P11.1, B1 and B2, and P11.2: valid modules.
func TestRightModules(t *testing.T) {
	for _, c := range rightModules() {
		if !Right(c.m) {
			t.Errorf("%s: not valid", c.name)
		}
		b, e := Put(c.m)
		if e != api.OK || !bytes.Equal(b, written(c.m)) {
			t.Errorf("%s: Put: %d bytes, %v", c.name, len(b), e)
		}
		m, e := Get(written(c.m))
		if e != api.OK || !same(m, c.m) {
			t.Errorf("%s: Get: %d Codes, %d Texts, %v", c.name, len(m.Codes), len(m.Texts), e)
		}
		if again, e := Put(m); e != api.OK || !bytes.Equal(again, b) {
			t.Errorf("%s: Put of what was read: %d bytes, %v", c.name, len(again), e)
		}
	}
}

// P11.1, B1 and B2: modules that are not valid.
func TestWrongModules(t *testing.T) {
	for _, c := range wrongModules() {
		mustRefuse(t, c, api.ErrCode)
	}
	for _, c := range greatModules() {
		mustRefuse(t, c.named, c.e)
	}
	all := with(func(m *api.Module) {
		m.Codes[0], m.Codes[1], m.Codes[2] = api.Code{Name: "abcdefghijklmnopq"}, api.Code{Result: 4, Slots: -1}, api.Code{Instrs: []api.Instr{{}}}
		m.Texts[0] = make([]byte, 65)
	})
	mustRefuse(t, named{"several reasons", all}, api.ErrCode)
}

// mustRefuse fails unless a module is not valid, and its bytes are refused with an error.
func mustRefuse(t *testing.T, c named, want api.Errno) {
	t.Helper()
	if Right(c.m) {
		t.Errorf("%s: valid", c.name)
	}
	if b, e := Put(c.m); b != nil || e != api.ErrCode {
		t.Errorf("%s: Put: %d bytes, %v", c.name, len(b), e)
	}
	mustNotRead(t, c.name, written(c.m), want)
}

func mustNotRead(t *testing.T, what string, b []byte, want api.Errno) {
	t.Helper()
	if m, e := Get(b); e != want || !none(m) {
		t.Errorf("%s: Get: %d Codes, %d Texts, %v; want %v", what, len(m.Codes), len(m.Texts), e, want)
	}
}

// P11.1, B1: the document's example, and each byte of a module.
func TestBytesOfModules(t *testing.T) {
	if b, e := Put(api.Module{}); e != api.OK || !bytes.Equal(b, make([]byte, 12)) {
		t.Errorf("nothing: %x, %v", b, e)
	}
	m := api.Module{
		Codes: []api.Code{
			{Name: "f", Params: []api.Type{api.TypeBytes, api.TypeBool}, Result: api.TypeInt, Slots: 256, Instrs: []api.Instr{{Op: api.OpNum, A: -2}, {Op: api.OpReturn}}},
			{Slots: 1},
		},
		Texts: [][]byte{[]byte("ab"), nil},
	}
	want := "\x00\x00\x00\x00\x00\x00\x00\x02" + // two Codes
		"\x00\x00\x00\x01f" +
		"\x00\x00\x00\x00\x00\x00\x00\x02" + "\x00\x00\x00\x00\x00\x00\x00\x03" + "\x00\x00\x00\x00\x00\x00\x00\x02" +
		"\x00\x00\x00\x00\x00\x00\x00\x01" +
		"\x00\x00\x00\x00\x00\x00\x01\x00" +
		"\x00\x00\x00\x00\x00\x00\x00\x02" +
		"\x00\x00\x00\x00\x00\x00\x00\x02" + "\xff\xff\xff\xff\xff\xff\xff\xfe" +
		"\x00\x00\x00\x00\x00\x00\x00\x12" + "\x00\x00\x00\x00\x00\x00\x00\x00" +
		"\x00\x00\x00\x00" +
		"\x00\x00\x00\x00\x00\x00\x00\x00" +
		"\x00\x00\x00\x00\x00\x00\x00\x00" +
		"\x00\x00\x00\x00\x00\x00\x00\x01" +
		"\x00\x00\x00\x00\x00\x00\x00\x00" +
		"\x00\x00\x00\x02" + "\x00\x00\x00\x02ab" + "\x00\x00\x00\x00"
	if b, e := Put(m); e != api.OK || string(b) != want {
		t.Errorf("Put = %x, %v; want %x", b, e, want)
	}
	if got, e := Get([]byte(want)); e != api.OK || !same(got, m) {
		t.Errorf("Get = %s, %v", show(got), e)
	}
}

// P11.1 and P11.2: as many Codes and Instrs as a module may have.
func TestGreatestModule(t *testing.T) {
	c := api.Code{Name: "abcdefghijklmnop", Params: typed(16).Params, Result: api.TypeBytes, Slots: 256}
	c.Instrs = slices.Repeat([]api.Instr{{Op: api.OpJump, A: math.MinInt64}}, api.MaxInstrs)
	m := api.Module{Codes: slices.Repeat([]api.Code{c}, api.MaxCodes), Texts: slices.Repeat([][]byte{make([]byte, api.MaxText)}, api.MaxRow)}
	b, e := Put(m)
	if e != api.OK || !bytes.Equal(b, written(m)) {
		t.Fatal(len(b), e)
	}
	got, e := Get(b)
	if e != api.OK || !same(got, m) {
		t.Error(len(got.Codes), e)
	}
	mustNotRead(t, "without the last byte", b[:len(b)-1], api.ErrEnd)
	mustNotRead(t, "with one more", append(b, 0), api.ErrCode)
}

// P11.1, B3: the signs have numbers from 1 on.
func TestSigns(t *testing.T) {
	for i, s := range strings.Split("+ - * / % < <= > >= == != !", " ") {
		n := int64(i) + 1
		if Sign(n) != s || Number(s) != n {
			t.Errorf("%d: %q; %q: %d", n, Sign(n), s, Number(s))
		}
	}
	numbers := []int64{0, math.MaxInt64, math.MinInt64, math.MinInt64 + 1}
	for n := int64(13); n < 1000; n++ {
		numbers = append(numbers, n)
	}
	for n := int64(1); n < 1000; n++ {
		numbers = append(numbers, -n)
	}
	for i := 4; i < 63; i++ {
		// Numbers whose lowest bits are those of a sign's.
		for n := range int64(13) {
			numbers = append(numbers, 1<<i+n, -1<<i+n)
		}
	}
	for _, n := range numbers {
		if s := Sign(n); s != "" {
			t.Errorf("%d: %q", n, s)
		}
	}
}

// P11.1, B3: what is no sign has the number 0.
func TestNoSigns(t *testing.T) {
	for _, s := range []string{
		"", " ", "=", "&", "|", "&&", "||", "(", ")", "{", "}", ",", ";", ":", "++", "--", "<>", "=<", "=>", "=!", "!!", "===", "!==", "<=>",
		" +", "+ ", "+\x00", "\x00", "<= ", "a", "fn", "get", "1", "12", "\xff", "\u2212", "\u2264", "\u2260", strings.Repeat("+", 65536),
	} {
		if n := Number(s); n != 0 {
			t.Errorf("%.20q: %d", s, n)
		}
	}
	signs := strings.Split("+ - * / % < <= > >= == != !", " ")
	for b := range 256 {
		s := string([]byte{byte(b)})
		if n := Number(s); n != int64(slices.Index(signs, s))+1 {
			t.Errorf("%q: %d", s, n)
		}
		for c := range 256 {
			s := string([]byte{byte(b), byte(c)})
			if n := Number(s); n != int64(slices.Index(signs, s))+1 {
				t.Errorf("%q: %d", s, n)
			}
		}
	}
}
