package vm

import (
	"math"
	"strconv"
	"strings"
	"testing"

	"covenant/api"
	"covenant/arith"
	"covenant/journal"
	"covenant/verify"
)

// The instructions by their names, from OpGas on, and the signs by their numbers, from 1 on.
const (
	opNames   = "gas num bool text load store two one get has len put del call jump unless drop return"
	signNames = "+ - * / % < <= > >= == != !"
)

// numbered is the number of a word among others, from 1 on.
func numbered(words, word string) int64 {
	for i, w := range strings.Fields(words) {
		if w == word {
			return int64(i) + 1
		}
	}
	panic("no such word: " + word)
}

// asm is instructions by their names, each with its A, or the sign that this is, or 0. A name that follows x and a number is there so many times.
func asm(s string) []api.Instr {
	var l []api.Instr
	for _, part := range strings.Split(s, ",") {
		words, times := strings.Fields(part), 1
		if len(words) > 1 && strings.HasPrefix(words[0], "x") {
			times, _ = strconv.Atoi(words[0][1:])
			words = words[1:]
		}
		if len(words) == 0 {
			continue
		}
		i := api.Instr{Op: api.Op(numbered(opNames, words[0]))}
		if len(words) > 1 {
			a, err := strconv.ParseInt(words[1], 10, 64)
			if err != nil {
				a = numbered(signNames, words[1])
			}
			i.A = a
		}
		for range times {
			l = append(l, i)
		}
	}
	return l
}

// kindsOf are the types that letters stand for.
func kindsOf(letters string) []api.Type {
	var l []api.Type
	for _, c := range letters {
		l = append(l, api.Type(1+strings.IndexRune("ibs", c)))
	}
	return l
}

// fn is a function by its name and the letters of its parameters and its Result, such as "f ib:s", with slots beyond the parameters.
func fn(head string, slots int, instrs string) api.Code {
	name, kinds, _ := strings.Cut(head, " ")
	params, result, _ := strings.Cut(kinds, ":")
	c := api.Code{Name: name, Params: kindsOf(params), Slots: len(params) + slots, Instrs: asm(instrs)}
	if result != "" {
		c.Result = kindsOf(result)[0]
	}
	return c
}

// texts are those of all modules of these tests: the first one is empty, then come a, k, and texts of 15, 16 and 64 bytes.
func texts() [][]byte {
	return [][]byte{nil, []byte("a"), []byte("k"), []byte(long(15)), []byte(long(16)), []byte(long(64))}
}

func module(l ...api.Code) api.Module { return api.Module{Codes: l, Texts: texts()} }

func num(n int64) api.Value { return arith.Num(n) }

func truth(is bool) api.Value { return arith.Bool(is) }

func text(s string) api.Value { return arith.Text([]byte(s)) }

// long is a text of so many bytes.
func long(n int) string { return strings.Repeat("x", n) }

// tell is the text of pairs, such as a=1 b=2.
func tell(l []api.Pair) string {
	var parts []string
	for _, p := range l {
		parts = append(parts, string(p.Key)+"="+string(p.Value))
	}
	return strings.Join(parts, " ")
}

// full is a store of size 2048, such as tell tells it.
func full() string {
	parts := []string{}
	for _, key := range strings.Split("bcdefgh", "") {
		parts = append(parts, key+"="+long(256))
	}
	return strings.Join(append(parts, "i="+long(2048-7*265-9)), " ")
}

// changed is a journal with what tell tells, which has changes that a run must leave to be undone.
func changed(t *testing.T, told string) *journal.Journal {
	t.Helper()
	j := journal.New(nil)
	for _, part := range strings.Fields(told) {
		key, value, _ := strings.Cut(part, "=")
		if e := j.Put([]byte(key), []byte(value)); e != api.OK {
			t.Fatal(part, e)
		}
	}
	j.Del([]byte("nothing is here"))
	return j
}

func same(a, b api.Outcome) bool {
	return arith.Same(a.Value, b.Value) && a.Trap == b.Trap && a.Used == b.Used
}

// told is an outcome for a message.
func told(o api.Outcome) string {
	v := strconv.Itoa(int(o.Value.Type)) + " " + strconv.FormatInt(o.Value.Num, 10) + " " + strconv.Quote(string(o.Value.Text))
	return "{" + v + "} trap " + strconv.Itoa(int(o.Trap)) + " used " + strconv.FormatInt(o.Used, 10)
}

func ends(v api.Value, used int64) api.Outcome { return api.Outcome{Value: v, Used: used} }

func traps(trap api.Trap, used int64) api.Outcome { return api.Outcome{Trap: trap, Used: used} }

// run is a call of f, with what is stored ahead of it.
type run struct {
	m     api.Module
	store string
	args  []api.Value
}

// limits are those around what a run uses, all that are less if these are few, and great ones.
func limits(used int64) []int64 {
	l := []int64{math.MinInt64, -1, 0, 1, used / 2, used - 1, used, used + 1, api.MaxGas, api.MaxGas + 1, math.MaxInt64}
	for n := int64(2); n < used && n < 100; n++ {
		l = append(l, n)
	}
	return l
}

// mustDo fails unless a run ends in a way with each limit that is enough, and has no gas with each other one; and unless the store then is what it was, or what it must be.
func (x run) mustDo(t *testing.T, want api.Outcome, after string) {
	t.Helper()
	if e := verify.Check(x.m); e != api.OK {
		t.Fatalf("the module of the test is not safe: %v", e)
	}
	for _, limit := range limits(want.Used) {
		x.mustDoWith(t, limit, want, after)
	}
}

func (x run) mustDoWith(t *testing.T, limit int64, want api.Outcome, after string) {
	t.Helper()
	j := changed(t, x.store)
	mark, before := j.Mark(), tell(j.Pairs())
	most := min(max(limit, 0), api.MaxGas)
	if most < want.Used {
		want = traps(api.TrapGas, most)
	}
	if want.Trap != api.TrapNone {
		after = before
	}
	o := Run(x.m, "f", x.args, j, limit)
	if !same(o, want) {
		t.Fatalf("limit %d: %s; want %s", limit, told(o), told(want))
	}
	if got := tell(j.Pairs()); got != after {
		t.Fatalf("limit %d: the store is %q; want %q", limit, got, after)
	}
	if want.Trap != api.TrapNone && j.Mark() != mark {
		t.Fatalf("limit %d: the mark is %d, and was %d", limit, j.Mark(), mark)
	}
	if e := j.Undo(mark); e != api.OK || tell(j.Pairs()) != before {
		t.Fatalf("limit %d: %v; what was ahead of the run is %q; want %q", limit, e, tell(j.Pairs()), before)
	}
}

// mustIdle is mustDo for a run that ends since too many instructions used no gas: it uses all that there is, if it has used no more than least until then.
func (x run) mustIdle(t *testing.T, least int64) {
	t.Helper()
	for _, limit := range limits(least) {
		most := min(max(limit, 0), api.MaxGas)
		x.mustDoWith(t, limit, traps(api.TrapGas, most), "")
	}
}

// stored is what the functions of these tests find, if nothing else is said.
const stored = "a=1 k=0123456789abcdef"

// mustCome is mustDo for a function f alone that finds what is stored and changes nothing.
func mustCome(t *testing.T, kinds, instrs string, want api.Outcome, args ...api.Value) {
	t.Helper()
	t.Log(kinds, instrs)
	run{m: module(fn("f "+kinds, 2, instrs)), store: stored, args: args}.mustDo(t, want, stored)
}

// P14.1: the document's examples.
func TestExamples(t *testing.T) {
	mustCome(t, ":i", "gas 3, num 2, return", ends(num(2), 3))
	idle := run{m: module(fn("f", 0, "jump 0")), store: stored}
	idle.mustIdle(t, 0)
	half := run{m: module(fn("f s", 0, "text 1, load 0, put, num 1, num 0, two /, drop, return")), store: stored, args: []api.Value{text("new")}}
	half.mustDo(t, traps(api.TrapDiv, 4), "")
}

// P14.1: the limit is all that there is: nothing if it is negative, and never more than MaxGas.
func TestLimits(t *testing.T) {
	mustCome(t, "", "return", ends(api.Value{}, 0))
	mustCome(t, "", "gas 0, return", ends(api.Value{}, 0))
	mustCome(t, "", "gas 1, return", ends(api.Value{}, 1))
	mustCome(t, "", "gas 3, gas 4, gas 0, gas 5, return", ends(api.Value{}, 12))
	mustCome(t, "", "gas 99999, return", ends(api.Value{}, 99999))
	mustCome(t, "", "gas 100000, return", ends(api.Value{}, 100000))
	mustCome(t, "", "gas 100000, gas 0, return", ends(api.Value{}, 100000))
	over := run{m: module(fn("f", 0, "gas 100000, gas 1, return")), store: stored}
	over.mustIdle(t, 0)
	over.m = module(fn("f", 0, "gas 99999, text 0, get, drop, return"))
	over.mustIdle(t, 0)
	over.m = module(fn("f", 0, "gas 1, gas 2, jump 0"))
	over.mustIdle(t, 0)
}
