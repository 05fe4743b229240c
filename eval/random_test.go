package eval

import (
	"math"
	"math/rand"
	"slices"
	"strconv"
	"strings"
	"testing"

	"covenant/api"
	"covenant/journal"
	"covenant/types"
)

// local is a name that a random source has in scope.
type local struct {
	name, kind string
	counts     bool // of a for, so that it is not set
}

// head is a function of a random source, without its body.
type head struct {
	name, result string // "" without a result
	params       []local
}

// writer writes a random valid source: it knows the type of all that it puts in a place.
type writer struct {
	rand  *rand.Rand
	funcs []head
	self  int
	names []local
}

var kinds = []string{"int", "bool", "bytes"}

var pool = strings.Fields("a b c d e f g x y z")

func (w *writer) pick(l ...string) string { return l[w.rand.Intn(len(l))] }

func (w *writer) kind() string { return w.pick(kinds...) }

// source is functions, the first of which is f.
func (w *writer) source() string {
	for _, name := range []string{"f", "g", "h", "x"}[:1+w.rand.Intn(4)] {
		h := head{name: name, result: w.pick("", "int", "bool", "bytes")}
		for _, i := range w.rand.Perm(len(pool))[:w.rand.Intn(4)] {
			h.params = append(h.params, local{name: pool[i], kind: w.kind()})
		}
		w.funcs = append(w.funcs, h)
	}
	var b strings.Builder
	for i, h := range w.funcs {
		w.self, w.names = i, slices.Clone(h.params)
		var params []string
		for _, p := range h.params {
			params = append(params, p.name+": "+p.kind)
		}
		result := ""
		if h.result != "" {
			result = ": " + h.result
		}
		b.WriteString("fn " + h.name + "(" + strings.Join(params, ", ") + ")" + result + w.block(3, 2+w.rand.Intn(5), h.result != "") + "\n")
	}
	return b.String()
}

// block writes statements; if it must, it ends with a return.
func (w *writer) block(levels, count int, must bool) string {
	outer := len(w.names)
	var l []string
	for range count {
		l = append(l, w.stmt(levels))
	}
	if must {
		l = append(l, w.end())
	}
	w.names = w.names[:outer]
	return " { " + strings.Join(l, " ") + " }"
}

func (w *writer) end() string {
	if kind := w.funcs[w.self].result; kind != "" {
		return "return " + w.expr(kind, 3) + ";"
	}
	return "return;"
}

// free returns a name that is not in scope.
func (w *writer) free() string {
	for {
		name := w.pick(pool...)
		if !slices.ContainsFunc(w.names, func(l local) bool { return l.name == name }) {
			return name
		}
		if len(w.names) >= len(pool) {
			return "n" + strconv.Itoa(len(w.names))
		}
	}
}

// one returns one of the names in scope that are right, or "".
func (w *writer) one(right func(l local) bool) local {
	var l []local
	for _, n := range w.names {
		if right(n) {
			l = append(l, n)
		}
	}
	if len(l) == 0 {
		return local{}
	}
	return l[w.rand.Intn(len(l))]
}

func (w *writer) stmt(levels int) string {
	switch k := w.rand.Intn(20); {
	case k < 3:
		kind := w.kind()
		s := "= " + w.expr(kind, 3) + ";"
		name := w.free()
		w.names = append(w.names, local{name: name, kind: kind})
		return "let " + name + s
	case k < 7:
		if l := w.one(func(l local) bool { return !l.counts }); l.name != "" {
			return l.name + " = " + w.expr(l.kind, 3) + ";"
		}
	case k < 9 && levels > 0:
		s := "if " + w.expr("bool", 3) + w.block(levels-1, 1+w.rand.Intn(2), w.rand.Intn(8) == 0)
		if w.rand.Intn(2) == 0 {
			return s
		}
		return s + " else" + w.block(levels-1, w.rand.Intn(3), w.rand.Intn(8) == 0)
	case k < 12 && levels > 0:
		return w.loop(levels)
	case k < 14:
		if h, ok := w.callee(); ok {
			return w.call(h) + ";"
		}
	case k < 16:
		return "del(" + w.expr("bytes", 1) + ");"
	}
	return "put(" + w.expr("bytes", 1) + ", " + w.expr("bytes", 3) + ");"
}

func (w *writer) loop(levels int) string {
	from, to := "0", strconv.Itoa(w.rand.Intn(5))
	switch w.rand.Intn(8) {
	case 0:
		from = w.expr("int", 2)
	case 1:
		to = w.expr("int", 2)
	case 2:
		from, to = "9223372036854775805", "9223372036854775807"
	}
	name := w.free()
	outer := len(w.names)
	w.names = append(w.names, local{name: name, kind: "int", counts: true})
	s := "for " + name + " = " + from + " to " + to + w.block(levels-1, w.rand.Intn(4), w.rand.Intn(12) == 0)
	w.names = w.names[:outer]
	return s
}

// callee returns a function to call: mostly a later one, as calls of others come to no end.
func (w *writer) callee() (head, bool) {
	if w.rand.Intn(16) == 0 {
		return w.funcs[w.rand.Intn(len(w.funcs))], true
	}
	later := w.funcs[w.self+1:]
	if len(later) == 0 {
		return head{}, false
	}
	return later[w.rand.Intn(len(later))], true
}

func (w *writer) call(h head) string {
	var l []string
	for _, p := range h.params {
		l = append(l, w.expr(p.kind, 1))
	}
	return h.name + "(" + strings.Join(l, ", ") + ")"
}

func (w *writer) expr(kind string, levels int) string {
	if levels == 0 || w.rand.Intn(3) == 0 {
		return w.leaf(kind)
	}
	if w.rand.Intn(4) == 0 {
		if h, ok := w.callee(); ok && h.result == kind {
			return w.call(h)
		}
	}
	two := func(kind, sign string) string {
		return "(" + w.expr(kind, levels-1) + " " + sign + " " + w.expr(kind, levels-1) + ")"
	}
	switch kind {
	case "int":
		switch w.rand.Intn(5) {
		case 0:
			return "-" + w.leaf("int")
		case 1:
			return "len(" + w.expr("bytes", levels-1) + ")"
		}
		return two("int", w.pick("+", "+", "-", "-", "*", "/", "%"))
	case "bool":
		switch w.rand.Intn(5) {
		case 0:
			return "!" + w.leaf("bool")
		case 1:
			return "has(" + w.expr("bytes", levels-1) + ")"
		case 2:
			return two(w.kind(), w.pick("==", "!="))
		case 3:
			return two("int", w.pick("<", "<=", ">", ">="))
		}
		return two("bool", w.pick("&&", "||"))
	}
	if w.rand.Intn(3) == 0 {
		return "get(" + w.expr("bytes", levels-1) + ")"
	}
	return two("bytes", "+")
}

func (w *writer) leaf(kind string) string {
	if l := w.one(func(l local) bool { return l.kind == kind }); l.name != "" && w.rand.Intn(3) > 0 {
		return l.name
	}
	switch kind {
	case "int":
		return w.pick("0", "1", "1", "2", "3", "7", "9223372036854775807", "4611686018427387904")
	case "bool":
		return w.pick("true", "false")
	}
	return w.pick(`""`, `"a"`, `"b"`, `"k"`, `"ab"`, `"`+long(16)+`"`, `"`+long(64)+`"`)
}

// args is arguments that fit the parameters of f.
func (w *writer) args() []api.Value {
	var l []api.Value
	for _, p := range w.funcs[0].params {
		switch p.kind {
		case "int":
			l = append(l, num([]int64{0, 1, -1, 2, 5, math.MaxInt64, math.MinInt64}[w.rand.Intn(7)]))
		case "bool":
			l = append(l, api.Value{Type: api.TypeBool, Num: []int64{0, 1, 1, 2, -1}[w.rand.Intn(5)]})
		case "bytes":
			l = append(l, text([]string{"", "a", "k", "\x00\xff", long(64), long(200), long(256)}[w.rand.Intn(7)]))
		}
	}
	return l
}

// random is a run of a random program, with its source.
func random(t *testing.T, seed int) (run, string, *rand.Rand) {
	t.Helper()
	for round := 0; ; round++ {
		w := &writer{rand: rand.New(rand.NewSource(int64(seed + round*1000000)))}
		src := w.source()
		p, e, at := types.Front([]byte(src))
		if e == api.ErrTooMany {
			continue
		}
		if e != api.OK {
			t.Fatalf("Front(%q): %v, %d", src, e, at)
		}
		return run{prog: p, args: w.args(), store: w.pick("", "a=1", "a=1 b= k=0123456789abcdef", full())}, src, w.rand
	}
}

// checkRun holds a run with a limit against that of the machine.
func checkRun(t *testing.T, x run, src string, limit int64) api.Outcome {
	t.Helper()
	m := translated(x.prog, pairsOf(x.store))
	want := m.run(x.args, limit)
	j := changed(t, x.store)
	mark := j.Mark()
	o := Run(x.prog, "f", x.args, j, limit)
	if !same(o, want) || tell(j.Pairs()) != tell(m.pairs()) {
		t.Fatalf("%s\nlimit %d: %s, %q; want %s, %q", src, limit, told(o), tell(j.Pairs()), told(want), tell(m.pairs()))
	}
	if o.Trap != api.TrapNone && j.Mark() != mark {
		t.Fatalf("%s\nlimit %d: %s; mark %d; it was %d", src, limit, told(o), j.Mark(), mark)
	}
	return o
}

// P10.1: random programs come to what they come to on a machine of another kind.
func TestRandomRuns(t *testing.T) {
	count := map[api.Trap]int{}
	for seed := range 2000 {
		x, src, r := random(t, seed)
		o := checkRun(t, x, src, api.MaxGas)
		for _, limit := range []int64{o.Used - 1, o.Used, o.Used + 1, r.Int63n(o.Used + 1), r.Int63n(api.MaxGas)} {
			count[checkRun(t, x, src, limit).Trap]++
		}
	}
	for trap := api.TrapNone; trap <= api.TrapSize; trap++ {
		if count[trap] < 200 {
			t.Errorf("only %d runs with trap %d", count[trap], trap)
		}
	}
}

// P10.3, P10.4: of any two limits.
func TestRandomGas(t *testing.T) {
	for seed := range 300 {
		x, src, r := random(t, 10000+seed)
		with := func(limit int64) (api.Outcome, *journal.Journal) {
			j := changed(t, x.store)
			o := Run(x.prog, "f", x.args, j, limit)
			if most := min(max(limit, 0), api.MaxGas); o.Used < 0 || o.Used > most || o.Trap == api.TrapGas && o.Used != most {
				t.Fatalf("%s\nlimit %d: %s", src, limit, told(o))
			}
			return o, j
		}
		limit := int64(-3)
		o, j := with(limit)
		for limit < 2*api.MaxGas {
			limit += 1 + r.Int63n(max(limit, 1))
			more, k := with(limit)
			if o.Trap != api.TrapGas && (!same(o, more) || tell(j.Pairs()) != tell(k.Pairs())) {
				t.Fatalf("%s\n%s; with more gas (%d) %s", src, told(o), limit, told(more))
			}
			if more.Used < o.Used {
				t.Fatalf("%s\n%s; with more gas (%d) %s", src, told(o), limit, told(more))
			}
			o, j = more, k
		}
	}
}
