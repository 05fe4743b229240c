package journal

import (
	"bytes"
	"slices"
	"testing"

	"covenant/api"
)

// spared is bytes with capacity behind them.
func spared(s string) []byte {
	return append([]byte(s), "spare capacity"...)[:len(s)]
}

// sparedPairs is pairs with capacity behind them, and behind each of their keys and values.
func sparedPairs(told string) []api.Pair {
	var l []api.Pair
	for _, p := range pairsOf(told + " spare=1 spare=2") {
		l = append(l, api.Pair{Key: spared(string(p.Key)), Value: spared(string(p.Value))})
	}
	return l[:len(l)-2]
}

// memory is all bytes that pairs lead to, with their spare capacity, those of the pairs behind the last one among them.
func memory(l []api.Pair) [][]byte {
	var m [][]byte
	for _, p := range l[:cap(l)] {
		m = append(m, p.Key[:cap(p.Key)], p.Value[:cap(p.Value)])
	}
	return m
}

func snapshot(m [][]byte) [][]byte {
	var s [][]byte
	for _, b := range m {
		s = append(s, bytes.Clone(b))
	}
	return s
}

func flip(m ...[]byte) {
	for _, b := range m {
		for i := range b {
			b[i] ^= 0xFF
		}
	}
}

// spoil changes all that a list of pairs leads to, and the list itself, with the spare capacity of each.
func spoil(l []api.Pair) {
	flip(memory(l)...)
	for i := range l[:cap(l)] {
		l[:cap(l)][i] = api.Pair{Key: []byte("spoilt"), Value: []byte("spoilt")}
	}
}

// P3: what is passed to New is not changed by anything that is done to the journal.
func TestListStays(t *testing.T) {
	for _, told := range []string{"", "=", "a=1 b=2 k=", full(), "b=1 a=2"} {
		l := sparedPairs(told)
		whole, before := slices.Clone(l[:cap(l)]), snapshot(memory(l))
		if j := New(l); j != nil {
			for _, key := range []string{"", "a", "b", "k", "z"} {
				j.Put([]byte(key), []byte("new"))
				j.Del([]byte(key))
				j.Put([]byte(key), nil)
			}
			j.Undo(j.Mark() / 2)
			j.Undo(0)
		}
		for i, p := range l[:cap(l)] {
			if len(p.Key) != len(whole[i].Key) || len(p.Value) != len(whole[i].Value) || cap(p.Key) != cap(whole[i].Key) || cap(p.Value) != cap(whole[i].Value) {
				t.Errorf("%q: pair %d was changed", told, i)
			}
		}
		if !slices.EqualFunc(memory(l), before, bytes.Equal) {
			t.Errorf("%q: bytes were changed", told)
		}
	}
}

// P3: what was passed to New may be changed afterwards, also ahead of an Undo.
func TestListIsNotKept(t *testing.T) {
	l := sparedPairs("a=1 b=2")
	j := New(l)
	spoil(l)
	mustBe(t, j, "a=1 b=2", 0)

	l = sparedPairs("a=1 b=2")
	j = New(l)
	mustDo(t, j, []step{put("a", "3", "a=3 b=2"), del("b", "a=3"), put("c", "4", "a=3 c=4")})
	spoil(l)
	mustBe(t, j, "a=3 c=4", 3)
	mustUndo(t, j, 1)
	mustBe(t, j, "a=3 b=2", 1)
	mustUndo(t, j, 0)
	mustBe(t, j, "a=1 b=2", 0)
}

// P3: the key and the value of a call are not changed, nor what lies behind them, also if there is an error.
func TestTextsStay(t *testing.T) {
	for _, key := range []string{"", "a", "b", "z", text(64), text(65)} {
		for _, value := range []string{"", "1", text(256), text(257)} {
			for _, first := range []string{"", "a=1 b=2", full()} {
				j := mustNew(t, first)
				k, v := spared(key), spared(value)
				m := [][]byte{k[:cap(k)], v[:cap(v)]}
				before := snapshot(m)
				j.Put(k, v)
				j.Get(k)
				j.Del(k)
				j.Put(k, v)
				j.Put([]byte("a"), []byte("other"))
				j.Undo(0)
				if !slices.EqualFunc(m, before, bytes.Equal) {
					t.Fatalf("key of %d, value of %d: bytes were changed", len(key), len(value))
				}
			}
		}
	}
}

// P3: the key and the value of Put, and the key of Del, may be changed afterwards, also ahead of an Undo.
func TestTextsAreNotKept(t *testing.T) {
	j := mustNew(t, "a=1 b=2")
	l := []string{"a=1 b=2"}
	for _, s := range []step{
		put("c", "3", "a=1 b=2 c=3"), put("a", "4", "a=4 b=2 c=3"), del("b", "a=4 c=3"), del("zz", "a=4 c=3"),
		put("c", "", "a=4 c="), del("a", "c="), put("a", "5", "a=5 c="),
	} {
		k, v := spared(s.key), spared(s.value)
		if s.del {
			j.Del(k)
		} else if e := j.Put(k, v); e != api.OK {
			t.Fatal(e)
		}
		flip(k[:cap(k)], v[:cap(v)])
		l = append(l, s.after)
		mustBe(t, j, s.after, len(l)-1)
	}
	for mark := len(l) - 1; mark >= 0; mark-- {
		mustUndo(t, j, mark)
		mustBe(t, j, l[mark], mark)
	}
}

// P3: one buffer may serve all calls.
func TestOneBuffer(t *testing.T) {
	for mark, told := range []string{"a=1", "a=1 b=b", "a=a b=b", "b=b", "b=b c=c", "a=a b=b c=c", "b=b c=c", "b=b c=c"} {
		j := mustNew(t, "a=1")
		b := make([]byte, 1, 8)
		for i, c := range []byte("bacab") {
			b[0] = c
			if e := j.Put(b, b); e != api.OK {
				t.Fatal(e)
			}
			if i%2 == 1 {
				j.Del(b)
			}
		}
		b[0] = 'z'
		mustUndo(t, j, mark)
		mustBe(t, j, told, mark)
	}
}

// P3: what Get and Pairs return may be changed, also ahead of an Undo that brings it back, and after one.
func TestResultsAreNewMemory(t *testing.T) {
	first, steps := manySteps()
	l := states(first, steps)
	spoilResults := func(j *Journal) {
		for _, p := range j.Pairs() {
			v, _ := j.Get(p.Key)
			flip(v[:cap(v)])
		}
		spoil(j.Pairs())
	}
	j := mustNew(t, first)
	spoilResults(j)
	mustBe(t, j, first, 0)
	for _, s := range steps {
		mustDo(t, j, []step{s})
		spoilResults(j)
		mustBe(t, j, s.after, j.Mark())
	}
	for mark := len(steps); mark >= 0; mark-- {
		mustUndo(t, j, mark)
		spoilResults(j)
		mustBe(t, j, l[mark], mark)
	}
	mustDo(t, j, steps)
	mustUndo(t, j, 0)
	mustBe(t, j, first, 0)
}

// P3: a result that was kept stays as it is, whatever is done to the journal.
func TestResultsStay(t *testing.T) {
	first, steps := manySteps()
	j := mustNew(t, first)
	var lists [][]api.Pair
	var tells []string
	var values [][]byte
	keep := func() {
		lists, tells = append(lists, j.Pairs()), append(tells, tell(j.Pairs()))
		v, _ := j.Get([]byte("a"))
		values = append(values, v)
	}
	keep()
	for _, s := range steps {
		mustDo(t, j, []step{s})
		keep()
	}
	before := snapshot(values)
	for mark := len(steps); mark >= 0; mark -= 2 {
		mustUndo(t, j, mark)
		keep()
		mustPut(t, j, "a", "other")
		j.Del([]byte("b"))
	}
	for i, l := range lists {
		if tell(l) != tells[i] {
			t.Errorf("pairs %d: %q, and at first %q", i, tell(l), tells[i])
		}
	}
	if !slices.EqualFunc(values[:len(before)], before, bytes.Equal) {
		t.Error("a value of Get was changed")
	}
}

// P3: no two lists of what Pairs returns share memory.
func TestPairsShareNothing(t *testing.T) {
	b := []byte("abcdefgh")
	j := New([]api.Pair{{Key: b[0:1], Value: b}, {Key: b[0:2], Value: b}, {Key: b[2:4], Value: b[2:4]}})
	j.Put(b[1:3], b[1:3])
	l := j.Pairs()
	parts := memory(l)
	for i, part := range parts {
		before := snapshot(parts)
		flip(part)
		flip(before[i])
		if !slices.EqualFunc(parts, before, bytes.Equal) {
			t.Fatalf("list %d shares memory with another one", i)
		}
	}
	mustBe(t, j, "a=abcdefgh ab=abcdefgh bc=bc cd=cd", 1)
}
