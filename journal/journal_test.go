package journal

import (
	"math"
	"strings"
	"testing"

	"covenant/api"
	"covenant/store"
)

// text is a text of so many bytes.
func text(n int) string { return strings.Repeat("x", n) }

// pairsOf is the pairs that a text tells, such as a=1 b=2.
func pairsOf(told string) []api.Pair {
	var l []api.Pair
	for _, part := range strings.Fields(told) {
		key, value, _ := strings.Cut(part, "=")
		l = append(l, api.Pair{Key: []byte(key), Value: []byte(value)})
	}
	return l
}

// tell is the text of pairs, in their order.
func tell(l []api.Pair) string {
	var parts []string
	for _, p := range l {
		parts = append(parts, string(p.Key)+"="+string(p.Value))
	}
	return strings.Join(parts, " ")
}

// full is a store of size 2048: seven pairs that are as long as a key of one byte lets them be, and one of what is left.
func full() string {
	var parts []string
	for _, key := range strings.Split("bcdefgh", "") {
		parts = append(parts, key+"="+text(256))
	}
	return strings.Join(append(parts, "i="+text(2048-7*265-9)), " ")
}

func mustNew(t *testing.T, told string) *Journal {
	t.Helper()
	j := New(pairsOf(told))
	if j == nil {
		t.Fatalf("New(%q) = nil", told)
	}
	return j
}

// probes are keys that are asked for whatever a journal should have.
func probes() []string {
	return []string{"", "\x00", "a", "a\x00", "aa", "b", "h", "i", "z", "\xff", text(64), text(65)}
}

// mustBe fails unless the journal has these pairs and no other, by Pairs and by Get, is valid, and has this number of changes.
func mustBe(t *testing.T, j *Journal, told string, mark int) {
	t.Helper()
	l := j.Pairs()
	if tell(l) != told || j.Mark() != mark {
		t.Fatalf("%q at mark %d; want %q at mark %d", tell(l), j.Mark(), told, mark)
	}
	if !store.Right(l) {
		t.Fatalf("%q is not valid", told)
	}
	at := map[string]string{}
	for _, p := range pairsOf(told) {
		at[string(p.Key)] = string(p.Value)
	}
	for _, key := range probes() {
		if _, is := at[key]; !is {
			mustMiss(t, j, key)
		}
	}
	for key, want := range at {
		if v, is := j.Get([]byte(key)); !is || string(v) != want {
			t.Fatalf("Get(%q) = %q, %v; want %q", key, v, is, want)
		}
	}
}

func mustMiss(t *testing.T, j *Journal, key string) {
	t.Helper()
	if v, is := j.Get([]byte(key)); is || v != nil {
		t.Fatalf("Get(%q) = %q, %v; want nil, false", key, v, is)
	}
}

func mustPut(t *testing.T, j *Journal, key, value string) {
	t.Helper()
	if e := j.Put([]byte(key), []byte(value)); e != api.OK {
		t.Fatalf("Put(%q, %q): %v", key, value, e)
	}
}

// mustRefuse fails unless Put returns this error and changes nothing.
func mustRefuse(t *testing.T, j *Journal, key, value string, want api.Errno) {
	t.Helper()
	told, mark := tell(j.Pairs()), j.Mark()
	if e := j.Put([]byte(key), []byte(value)); e != want {
		t.Fatalf("Put(key of %d, value of %d) = %v; want %v", len(key), len(value), e, want)
	}
	mustBe(t, j, told, mark)
}

func mustUndo(t *testing.T, j *Journal, mark int) {
	t.Helper()
	if e := j.Undo(mark); e != api.OK {
		t.Fatalf("Undo(%d) at mark %d: %v", mark, j.Mark(), e)
	}
}

// mustNotUndo fails unless these marks are ErrArg, and change nothing.
func mustNotUndo(t *testing.T, j *Journal, marks ...int) {
	t.Helper()
	told, mark := tell(j.Pairs()), j.Mark()
	for _, m := range marks {
		if e := j.Undo(m); e != api.ErrArg {
			t.Fatalf("Undo(%d) at mark %d: %v; want ErrArg", m, mark, e)
		}
		mustBe(t, j, told, mark)
	}
}

// step is a change, and what the store is after it.
type step struct {
	del        bool
	key, value string
	after      string
}

func put(key, value, after string) step { return step{key: key, value: value, after: after} }

func del(key, after string) step { return step{del: true, key: key, after: after} }

// mustDo makes the changes, the first of which is the one after mark.
func mustDo(t *testing.T, j *Journal, steps []step) {
	t.Helper()
	for _, s := range steps {
		mark := j.Mark()
		if s.del {
			j.Del([]byte(s.key))
		} else {
			mustPut(t, j, s.key, s.value)
		}
		mustBe(t, j, s.after, mark+1)
	}
}

// states is what the store is at each mark.
func states(first string, steps []step) []string {
	l := []string{first}
	for _, s := range steps {
		l = append(l, s.after)
	}
	return l
}

// manySteps are changes of all kinds of a store that has a and c at first.
func manySteps() (string, []step) {
	return "a=1 c=3", []step{
		put("b", "2", "a=1 b=2 c=3"),
		put("b", "22", "a=1 b=22 c=3"),
		put("b", "22", "a=1 b=22 c=3"),
		del("zz", "a=1 b=22 c=3"),
		del("a", "b=22 c=3"),
		del("a", "b=22 c=3"),
		put("a", "11", "a=11 b=22 c=3"),
		put("", "", "= a=11 b=22 c=3"),
		put("", "0", "=0 a=11 b=22 c=3"),
		del("", "a=11 b=22 c=3"),
		put("\xff", "9", "a=11 b=22 c=3 \xff=9"),
		del("b", "a=11 c=3 \xff=9"),
		del("c", "a=11 \xff=9"),
		del("a", "\xff=9"),
		del("\xff", ""),
		del("\xff", ""),
		put("c", "", "c="),
		put("ab", "1", "ab=1 c="),
		put("a", "1", "a=1 ab=1 c="),
	}
}

// P8.1: the document's examples.
func TestExamples(t *testing.T) {
	for _, first := range []string{"", "b=2", "a=0", "a=1 b=2"} {
		j := mustNew(t, first)
		mustPut(t, j, "a", "1")
		with := tell(j.Pairs())
		if mark := j.Mark(); mark != 1 {
			t.Fatalf("Mark() = %d", mark)
		}
		j.Del([]byte("a"))
		mustUndo(t, j, 1)
		mustBe(t, j, with, 1)
		mustUndo(t, j, 0)
		mustBe(t, j, first, 0)
	}
	j := mustNew(t, "")
	mustDo(t, j, []step{put("a", "1", "a=1"), del("a", "")})
	mustUndo(t, j, 1)
	mustBe(t, j, "a=1", 1)
}

// P8.1, J1.
func TestNew(t *testing.T) {
	for _, told := range []string{"", "=", "=1", "a=", "a=1 ab=2 abc=3 b=4", "A=1 a=1 \x7f=1 \x80=1 \xff=1 \xff\xff=1", text(64) + "=" + text(256), full()} {
		mustBe(t, mustNew(t, told), told, 0)
	}
	for _, l := range [][]api.Pair{nil, {}, make([]api.Pair, 0, 5)} {
		j := New(l)
		if j == nil {
			t.Fatal("New of no pairs = nil")
		}
		mustBe(t, j, "", 0)
	}
	if j := New([]api.Pair{{}}); j == nil || len(j.Pairs()) != 1 {
		t.Error("New of a pair of nil and nil")
	}
	if n := store.Size(pairsOf(full())); n != api.MaxStore {
		t.Errorf("the full store has size %d", n)
	}
}

// P8.1, J1, and P8.3.
func TestNewOfWrongLists(t *testing.T) {
	for _, told := range []string{
		"b=1 a=2", "a=1 c=2 b=3 d=4", "a=1 =2", "ab=1 a=2", "\x80=1 \x7f=2",
		"a=1 a=1", "a=1 a=2", "= =", "a=1 b=2 b=3 c=4", "a=1 b=2 a=3",
		text(65) + "=1", "a=1 " + text(65) + "=1", text(1<<17) + "=" + text(1<<17),
		"a=" + text(257), "a=1 b=" + text(257) + " c=1",
		full() + "x", "=1 " + full(), full() + " j=",
	} {
		if j := New(pairsOf(told)); j != nil {
			t.Errorf("New(%q) is a journal", told)
		}
	}
	if n := store.Size(pairsOf(full() + "x")); n != 2049 {
		t.Errorf("the store that is a little too great has size %d", n)
	}
}

// P8.1, J1 and J2.
func TestPut(t *testing.T) {
	j := mustNew(t, "b=1 d=2")
	mustDo(t, j, []step{
		put("a", "3", "a=3 b=1 d=2"),
		put("c", "4", "a=3 b=1 c=4 d=2"),
		put("e", "5", "a=3 b=1 c=4 d=2 e=5"),
		put("b", "6", "a=3 b=6 c=4 d=2 e=5"),
		put("b", "6", "a=3 b=6 c=4 d=2 e=5"),
		put("e", "", "a=3 b=6 c=4 d=2 e="),
		put("", "7", "=7 a=3 b=6 c=4 d=2 e="),
		put("ab", text(256), "=7 a=3 ab="+text(256)+" b=6 c=4 d=2 e="),
		put(text(64), "8", "=7 a=3 ab="+text(256)+" b=6 c=4 d=2 e= "+text(64)+"=8"),
	})
	j = mustNew(t, "")
	if e := j.Put(nil, nil); e != api.OK {
		t.Error(e)
	}
	mustBe(t, j, "=", 1)
}

// P8.1, J2.
func TestPutTooLong(t *testing.T) {
	for _, first := range []string{"", "a=1", full()} {
		j := mustNew(t, first)
		for range 2 {
			mustRefuse(t, j, text(65), "", api.ErrArg)
			mustRefuse(t, j, "", text(257), api.ErrArg)
			mustRefuse(t, j, "a", text(257), api.ErrArg)
			mustRefuse(t, j, text(65), text(257), api.ErrArg)
			mustRefuse(t, j, text(1<<17), text(1<<17), api.ErrArg)
		}
		mustUndo(t, j, 0)
		mustBe(t, j, first, 0)
	}
}

// P8.1, J2, and P8.3: up to the quota there is room; what has no room changes nothing, and Undo still finds what was.
func TestPutQuota(t *testing.T) {
	j := mustNew(t, full())
	rest := strings.TrimPrefix(full(), "b="+text(256)+" ")
	mustRefuse(t, j, "", "", api.ErrQuota)
	mustRefuse(t, j, "a", "1", api.ErrQuota)
	mustRefuse(t, j, "i", text(250), api.ErrQuota)
	mustDo(t, j, []step{put("b", "", "b= "+rest)})
	mustRefuse(t, j, "a", text(248), api.ErrQuota)
	mustDo(t, j, []step{put("a", text(247), "a="+text(247)+" b= "+rest)})
	mustRefuse(t, j, "b", "1", api.ErrQuota)
	mustRefuse(t, j, "z", "", api.ErrQuota)
	mustUndo(t, j, 1)
	mustBe(t, j, "b= "+rest, 1)
	mustDo(t, j, []step{put("b", text(255), "b="+text(255)+" "+rest)})
	mustRefuse(t, j, "a", "", api.ErrQuota)
	mustUndo(t, j, 0)
	mustBe(t, j, full(), 0)
	mustRefuse(t, j, "", "", api.ErrQuota)
}

// P8.1, J2.
func TestDel(t *testing.T) {
	j := mustNew(t, "a=1 ab=2 b=3")
	mustDo(t, j, []step{
		del("ab", "a=1 b=3"), del("ab", "a=1 b=3"), del("", "a=1 b=3"), del("aa", "a=1 b=3"), del("c", "a=1 b=3"),
		del(text(64), "a=1 b=3"), del(text(65), "a=1 b=3"), del(text(1<<17), "a=1 b=3"),
		del("a", "b=3"), del("b", ""), del("b", ""), del("", ""),
	})
	j.Del(nil)
	mustBe(t, j, "", 13)
	for mark := 12; mark > 9; mark-- {
		mustUndo(t, j, mark)
		mustBe(t, j, "", mark)
	}
	mustUndo(t, j, 9)
	mustBe(t, j, "b=3", 9)
	mustUndo(t, j, 1)
	mustBe(t, j, "a=1 b=3", 1)
	mustUndo(t, j, 0)
	mustBe(t, j, "a=1 ab=2 b=3", 0)
}

// P8.1, J3.
func TestUndoToNoMark(t *testing.T) {
	wrong := func(j *Journal) []int {
		return []int{-1, -2, math.MinInt, j.Mark() + 1, j.Mark() + 2, math.MaxInt}
	}
	j := mustNew(t, "b=1")
	mustNotUndo(t, j, wrong(j)...)
	first, steps := manySteps()
	j = mustNew(t, first)
	for _, s := range steps {
		mustDo(t, j, []step{s})
		mustNotUndo(t, j, wrong(j)...)
	}
	l := states(first, steps)
	for mark := len(steps); mark >= 0; mark-- {
		mustUndo(t, j, mark)
		mustNotUndo(t, j, wrong(j)...)
		mustBe(t, j, l[mark], mark)
	}
}

// P8.1, J3, and P8.2: to each mark at once, and back to the last one by the same changes.
func TestUndoToEachMark(t *testing.T) {
	first, steps := manySteps()
	l := states(first, steps)
	for mark := range l {
		j := mustNew(t, first)
		mustDo(t, j, steps)
		mustUndo(t, j, mark)
		mustBe(t, j, l[mark], mark)
		mustUndo(t, j, mark)
		mustBe(t, j, l[mark], mark)
		mustDo(t, j, steps[mark:])
		for back := mark; back >= 0; back-- {
			mustUndo(t, j, back)
			mustBe(t, j, l[back], back)
		}
	}
}

// P8.2: what comes after an Undo, and marks from before it.
func TestChangesAfterUndo(t *testing.T) {
	j := mustNew(t, "a=1")
	mustDo(t, j, []step{put("b", "2", "a=1 b=2"), put("c", "3", "a=1 b=2 c=3"), del("a", "b=2 c=3")})
	mustUndo(t, j, 1)
	mustBe(t, j, "a=1 b=2", 1)
	mustNotUndo(t, j, 2, 3)
	mustDo(t, j, []step{del("b", "a=1"), put("a", "4", "a=4"), put("d", "5", "a=4 d=5")})
	mustUndo(t, j, 3)
	mustBe(t, j, "a=4", 3)
	mustUndo(t, j, 2)
	mustBe(t, j, "a=1", 2)
	mustDo(t, j, []step{put("z", "", "a=1 z=")})
	mustUndo(t, j, 1)
	mustBe(t, j, "a=1 b=2", 1)
	mustUndo(t, j, 0)
	mustBe(t, j, "a=1", 0)
	mustDo(t, j, []step{del("a", ""), put("a", "6", "a=6")})
	mustUndo(t, j, 0)
	mustBe(t, j, "a=1", 0)
}

// P8.2: a put that is refused between two changes leaves nothing to undo.
func TestUndoPastErrors(t *testing.T) {
	j := mustNew(t, "a=1")
	mustDo(t, j, []step{put("b", "2", "a=1 b=2")})
	mustRefuse(t, j, "b", text(257), api.ErrArg)
	mustRefuse(t, j, text(65), "", api.ErrArg)
	mustDo(t, j, []step{del("a", "b=2")})
	mustRefuse(t, j, "a", text(257), api.ErrArg)
	mustUndo(t, j, 1)
	mustBe(t, j, "a=1 b=2", 1)
	mustRefuse(t, j, "a", text(257), api.ErrArg)
	mustUndo(t, j, 0)
	mustBe(t, j, "a=1", 0)
}

// nested makes a journal of two changes, two within a mark, and two within a mark in that one, and returns both marks.
func nested(t *testing.T) (j *Journal, outer, inner int) {
	t.Helper()
	j = mustNew(t, "k=0")
	mustDo(t, j, []step{put("k", "1", "k=1"), put("a", "1", "a=1 k=1")})
	outer = j.Mark()
	mustDo(t, j, []step{put("k", "2", "a=1 k=2"), del("a", "k=2")})
	inner = j.Mark()
	mustDo(t, j, []step{put("a", "3", "a=3 k=2"), put("k", "3", "a=3 k=3")})
	return j, outer, inner
}

// P8.2.
func TestNestedMarks(t *testing.T) {
	j, outer, inner := nested(t)
	mustUndo(t, j, inner)
	mustBe(t, j, "k=2", 4)
	mustUndo(t, j, outer)
	mustBe(t, j, "a=1 k=1", 2)
	mustUndo(t, j, 0)
	mustBe(t, j, "k=0", 0)

	j, outer, inner = nested(t)
	mustUndo(t, j, outer)
	mustBe(t, j, "a=1 k=1", 2)
	mustNotUndo(t, j, inner)
	mustUndo(t, j, 0)
	mustBe(t, j, "k=0", 0)

	j, outer, inner = nested(t)
	mustUndo(t, j, inner)
	mustDo(t, j, []step{put("b", "4", "b=4 k=2")})
	second := j.Mark()
	mustDo(t, j, []step{del("k", "b=4")})
	mustUndo(t, j, second)
	mustBe(t, j, "b=4 k=2", 5)
	mustUndo(t, j, outer)
	mustBe(t, j, "a=1 k=1", 2)
}

// P8.2: a key that is put, deleted and put again, of a store with it and without it.
func TestOneKey(t *testing.T) {
	for _, first := range []string{"", "k=0"} {
		steps := []step{put("k", "1", "k=1"), del("k", ""), put("k", "2", "k=2"), put("k", "3", "k=3"), del("k", ""), del("k", ""), put("k", "1", "k=1")}
		l := states(first, steps)
		j := mustNew(t, first)
		mustDo(t, j, steps)
		for mark := len(steps) - 1; mark >= 0; mark-- {
			mustUndo(t, j, mark)
			mustBe(t, j, l[mark], mark)
		}
		mustDo(t, j, steps)
		mustUndo(t, j, 0)
		mustBe(t, j, first, 0)
	}
}

// P8.2 and P8.3: a full store, in which the way back has room only in the right order.
func TestUndoOfFullStore(t *testing.T) {
	j := mustNew(t, full())
	l := []string{full()}
	for round := range 7 {
		for _, p := range j.Pairs() {
			j.Del(p.Key)
			l = append(l, tell(j.Pairs()))
			mustPut(t, j, string(rune('z'-round))+string(p.Key), string(p.Value[1:]))
			l = append(l, tell(j.Pairs()))
		}
		if n := store.Size(j.Pairs()); n != api.MaxStore {
			t.Fatal(n)
		}
	}
	for mark := j.Mark(); mark >= 0; mark -= 3 {
		mustUndo(t, j, mark)
		mustBe(t, j, l[mark], mark)
	}
	mustUndo(t, j, 0)
	mustBe(t, j, full(), 0)
}

// P8.2: more changes than a run has gas for.
func TestManyChanges(t *testing.T) {
	j := mustNew(t, "a=1")
	var told []string
	for i := range 100000 {
		told = append(told, tell(j.Pairs()))
		key := string(rune('b' + i%7))
		if i%5 == 0 || i%5 == 2 {
			j.Del([]byte(key))
		} else {
			mustPut(t, j, key, strings.Repeat(key, i%11))
		}
	}
	for _, mark := range []int{99999, 65537, 65536, 65535, 1, 0} {
		mustUndo(t, j, mark)
		mustBe(t, j, told[mark], mark)
	}
}
