package store

import (
	"bytes"
	"math/rand"
	"slices"
	"testing"

	"covenant/api"
)

// spared is bytes with capacity behind them.
func spared(s string) []byte {
	whole := append([]byte(s), "spare capacity"...)
	return whole[:len(s)]
}

// sparedPairs is a list with capacity behind it, and behind each of its keys and values.
func sparedPairs(l []two) []api.Pair {
	var m []api.Pair
	for _, p := range append(slices.Clip(l), list("spare", "1", "spare", "2", "spare", "3")...) {
		m = append(m, api.Pair{Key: spared(p.key), Value: spared(p.value)})
	}
	return m[:len(l)]
}

func wholeBytes(b []byte) []byte { return b[:cap(b)] }

// memory is all byte strings that a list leads to, with their spare capacity, those of the list's own spare capacity among them.
func memory(l []api.Pair) [][]byte {
	var m [][]byte
	for _, p := range l[:cap(l)] {
		m = append(m, wholeBytes(p.Key), wholeBytes(p.Value))
	}
	return m
}

// flip changes all bytes; once more, and they are as before.
func flip(m ...[]byte) {
	for _, b := range m {
		for i := range b {
			b[i] ^= 0xFF
		}
	}
}

// arguments is what is passed to a call.
type arguments struct {
	l               []api.Pair
	key, value, all []byte
}

func argumentsOf(l []two, key, value string) arguments {
	return arguments{l: sparedPairs(l), key: spared(key), value: spared(value), all: spared(string(written(l)))}
}

func (a arguments) memory() [][]byte {
	return append(memory(a.l), wholeBytes(a.key), wholeBytes(a.value), wholeBytes(a.all))
}

// snapshot is copies of byte strings.
func snapshot(m [][]byte) [][]byte {
	var s [][]byte
	for _, b := range m {
		s = append(s, bytes.Clone(b))
	}
	return s
}

func alike(a, b [][]byte) bool { return slices.EqualFunc(a, b, bytes.Equal) }

// results is what the calls return: the lists of pairs, and the byte strings.
func (a arguments) results() (lists [][]api.Pair, texts [][]byte) {
	value, _ := Get(a.l, a.key)
	put, _ := Put(a.l, a.key, a.value)
	deleted := Del(a.l, a.key)
	read, _ := Read(a.all)
	written, _ := Bytes(a.l)
	Size(a.l)
	Right(a.l)
	return [][]api.Pair{put, deleted, read}, [][]byte{value, written}
}

// cases calls see with lists, and keys that are there, ahead of all, between two and behind all.
func cases(see func(l []two, key, value string)) {
	for _, l := range append(rightLists(), wrongLists()...) {
		for _, value := range []string{"", "value", text(256), text(257)} {
			for _, key := range []string{"", "\x00", "a", "aa", "b", "bb", "kb", "kbb", "\xff\xff\xff", text(64), text(65)} {
				see(l, key, value)
			}
		}
	}
}

// P3: nothing that is passed is changed, nor what lies behind it.
func TestArgumentsStay(t *testing.T) {
	cases(func(l []two, key, value string) {
		a := argumentsOf(l, key, value)
		before, whole := snapshot(a.memory()), slices.Clone(a.l[:cap(a.l)])
		a.results()
		if !alike(a.memory(), before) {
			t.Fatalf("%q, %q, %q: bytes were changed", l, key, value)
		}
		for i, p := range a.l[:cap(a.l)] {
			if !sameMemory(p.Key, whole[i].Key) || !sameMemory(p.Value, whole[i].Value) {
				t.Fatalf("%q, %q, %q: pair %d was changed", l, key, value, i)
			}
		}
	})
}

func sameMemory(a, b []byte) bool {
	return len(a) == len(b) && cap(a) == cap(b) && (cap(a) == 0 || &wholeBytes(a)[0] == &wholeBytes(b)[0])
}

// P3: a result stays as it is when what was passed is changed, and the other way round.
func TestResultsAreNewMemory(t *testing.T) {
	cases(func(l []two, key, value string) {
		a := argumentsOf(l, key, value)
		lists, texts := a.results()
		mine := slices.Clone(texts)
		for i, b := range mine {
			mine[i] = wholeBytes(b)
		}
		for _, m := range lists {
			mine = append(mine, memory(m)...)
		}
		theirs, before := a.memory(), snapshot(a.memory())
		flip(mine...)
		if !alike(theirs, before) {
			t.Fatalf("%q, %q, %q: a result shares memory with an argument", l, key, value)
		}
		flip(mine...)
		after := snapshot(mine)
		flip(theirs...)
		for i := range a.l[:cap(a.l)] {
			a.l[:cap(a.l)][i] = api.Pair{Key: []byte("other"), Value: []byte("other")}
		}
		var now [][]byte
		for _, b := range texts {
			now = append(now, wholeBytes(b))
		}
		for _, m := range lists {
			now = append(now, memory(m)...)
		}
		if !alike(now, after) {
			t.Fatalf("%q, %q, %q: a result changed with an argument", l, key, value)
		}
	})
}

// P3: what is returned is memory of its own: to change one list of it, or of its spare capacity, changes no argument and no other list.
func TestResultsShareNothing(t *testing.T) {
	cases(func(l []two, key, value string) {
		a := argumentsOf(l, key, value)
		lists, _ := a.results()
		for _, m := range lists {
			parts := memory(m)
			for i, b := range parts {
				before := snapshot(parts)
				flip(b)
				flip(before[i])
				if !alike(parts, before) {
					t.Fatalf("%q, %q, %q: two lists of a result share memory", l, key, value)
				}
			}
			whole := m[:cap(m)]
			for i := range whole {
				whole[i] = api.Pair{Key: []byte("other"), Value: []byte("other")}
			}
		}
		if !slices.Equal(twosOf(a.l), l) {
			t.Fatalf("%q, %q, %q: a list shares its pairs with the argument", l, key, value)
		}
	})
}

// P3: this also holds where the lists that are passed share memory with each other.
func TestArgumentsThatShareMemory(t *testing.T) {
	b := []byte("abcdefgh")
	l := []api.Pair{{Key: b[0:1], Value: b}, {Key: b[0:2], Value: b}, {Key: b[2:4], Value: b[2:4]}}
	put, e := Put(l[:2], b[1:3], b[1:3])
	want := list("a", "abcdefgh", "ab", "abcdefgh", "bc", "bc")
	if e != api.OK || !slices.Equal(twosOf(put), want) || string(l[2].Key) != "cd" {
		t.Errorf("Put: %q, %v", twosOf(put), e)
	}
	again, e := Put(l, l[1].Key, l[1].Value)
	deleted := Del(l, l[0].Key)
	value, _ := Get(l, l[1].Key)
	clear(b)
	put[0].Value[0] = 'x'
	if string(put[1].Value) != "abcdefgh" || string(put[0].Key) != "a" || string(put[2].Key) != "bc" {
		t.Errorf("Put: two lists share memory: %q", twosOf(put))
	}
	if e != api.OK || !slices.Equal(twosOf(again), list("a", "abcdefgh", "ab", "abcdefgh", "cd", "cd")) {
		t.Errorf("Put at a key that is there: %q, %v", twosOf(again), e)
	}
	if !slices.Equal(twosOf(deleted), list("ab", "abcdefgh", "cd", "cd")) || string(value) != "abcdefgh" {
		t.Errorf("Del: %q; Get: %q", twosOf(deleted), value)
	}
}

// P3: a list of which two others are made keeps both apart.
func TestTwoFromOne(t *testing.T) {
	l := sparedPairs(list("a", "1", "c", "2"))
	one, _ := Put(l, []byte("d"), []byte("one"))
	other, _ := Put(l, []byte("e"), []byte("other"))
	none := Del(l, []byte("c"))
	more, _ := Put(none, []byte("z"), []byte("more"))
	if !slices.Equal(twosOf(one), list("a", "1", "c", "2", "d", "one")) || !slices.Equal(twosOf(other), list("a", "1", "c", "2", "e", "other")) {
		t.Errorf("%q, %q", twosOf(one), twosOf(other))
	}
	if !slices.Equal(twosOf(more), list("a", "1", "z", "more")) || !slices.Equal(twosOf(l), list("a", "1", "c", "2")) {
		t.Errorf("%q, %q", twosOf(more), twosOf(l))
	}
}

// P3: a call has the same result whatever was called before it.
func TestCallsDoNotHangOnOthers(t *testing.T) {
	source := rand.New(rand.NewSource(5))
	type call struct {
		l          []two
		key, value string
		lists      [][]two
		texts      [][]byte
	}
	run := func(c call) (lists [][]two, texts [][]byte) {
		m, texts := argumentsOf(c.l, c.key, c.value).results()
		for _, l := range m {
			lists = append(lists, twosOf(l))
		}
		return lists, texts
	}
	var done []call
	for range 2000 {
		c := call{l: randomList(source), key: randomText(source, 65), value: randomText(source, 257)}
		c.lists, c.texts = run(c)
		done = append(done, c)
	}
	slices.Reverse(done)
	for _, c := range done {
		lists, texts := run(c)
		if !slices.EqualFunc(lists, c.lists, slices.Equal) || !alike(texts, c.texts) {
			t.Fatalf("%q, %q, %q: %q and %q, and at first %q and %q", c.l, c.key, c.value, lists, texts, c.lists, c.texts)
		}
	}
}
