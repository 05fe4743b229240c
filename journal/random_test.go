package journal

import (
	"maps"
	"math/rand"
	"slices"
	"strings"
	"testing"

	"covenant/api"
)

// model is a journal as the document says it: a store, and the store before each change.
type model struct {
	now    map[string]string
	before []map[string]string
}

func (m *model) size() int {
	n := 0
	for key, value := range m.now {
		n += 8 + len(key) + len(value)
	}
	return n
}

// put changes nothing if it returns an error.
func (m *model) put(key, value string) api.Errno {
	if len(key) > 64 || len(value) > 256 {
		return api.ErrArg
	}
	was := maps.Clone(m.now)
	m.now[key] = value
	if m.size() > 2048 {
		m.now = was
		return api.ErrQuota
	}
	m.before = append(m.before, was)
	return api.OK
}

func (m *model) del(key string) {
	m.before = append(m.before, maps.Clone(m.now))
	delete(m.now, key)
}

func (m *model) undo(mark int) api.Errno {
	if mark < 0 || mark > len(m.before) {
		return api.ErrArg
	}
	if mark < len(m.before) {
		m.now, m.before = m.before[mark], m.before[:mark]
	}
	return api.OK
}

func (m *model) pairs() []api.Pair {
	var l []api.Pair
	for _, key := range slices.Sorted(maps.Keys(m.now)) {
		l = append(l, api.Pair{Key: []byte(key), Value: []byte(m.now[key])})
	}
	return l
}

// randomText is one letter up to so many times. None of the letters is one that pairsOf would split at.
func randomText(source *rand.Rand, most int) string {
	letters := "\x00\x01!0Zak~\x7f\x80\xa0\xfe\xff"
	at := source.Intn(len(letters))
	return strings.Repeat(letters[at:at+1], source.Intn(most+1))
}

// randomKey is mostly one of few, so that many are there already.
func randomKey(source *rand.Rand) string {
	if source.Intn(4) == 0 {
		return randomText(source, api.MaxKey+1)
	}
	return strings.Split("|a|aa|ab|b|b\x00|k|\x7f|\x80|\xff", "|")[source.Intn(10)]
}

func randomValue(source *rand.Rand) string {
	return randomText(source, []int{2, api.MaxValue + 4}[source.Intn(2)])
}

// change does one random thing to both, and returns what it was and what both returned.
func change(source *rand.Rand, j *Journal, m *model) (what string, got, want api.Errno) {
	switch source.Intn(20) {
	case 0:
		mark := source.Intn(len(m.before)+5) - 2
		return "Undo", j.Undo(mark), m.undo(mark)
	case 1, 2:
		mark := max(0, len(m.before)-source.Intn(5))
		return "Undo", j.Undo(mark), m.undo(mark)
	case 3, 4, 5, 6, 7:
		key := randomKey(source)
		j.Del([]byte(key))
		m.del(key)
		return "Del", 0, 0
	}
	key, value := randomKey(source), randomValue(source)
	return "Put", j.Put([]byte(key), []byte(value)), m.put(key, value)
}

// P8.1, P8.2 and P8.3: whatever is done, a journal is as the document says it.
func TestAnyChanges(t *testing.T) {
	source := rand.New(rand.NewSource(1))
	type outcome struct {
		what string
		e    api.Errno
	}
	found := map[outcome]int{}
	for range 150 {
		j, m := New(nil), &model{now: map[string]string{}}
		if source.Intn(2) == 0 {
			for range 20 {
				m.put(randomKey(source), randomValue(source))
			}
			m.before = nil
			j = New(m.pairs())
		}
		for range 300 {
			what, got, want := change(source, j, m)
			if got != want {
				t.Fatalf("%s = %v; want %v", what, got, want)
			}
			found[outcome{what, got}]++
			mustBe(t, j, tell(m.pairs()), len(m.before))
		}
		for mark := len(m.before); mark >= 0; mark-- {
			mustUndo(t, j, mark)
			m.undo(mark)
			mustBe(t, j, tell(m.pairs()), mark)
		}
	}
	for _, o := range []outcome{{"Put", api.OK}, {"Put", api.ErrArg}, {"Put", api.ErrQuota}, {"Del", api.OK}, {"Undo", api.OK}, {"Undo", api.ErrArg}} {
		if found[o] < 100 {
			t.Errorf("%s with %v was seen only %d times", o.what, o.e, found[o])
		}
	}
}

// P3: journals do not hang on each other, nor on what was read from them.
func TestTwoJournals(t *testing.T) {
	const first = "a=1 b=2"
	l := pairsOf(first)
	run := func(seed int64, j *Journal) func() *model {
		source, m := rand.New(rand.NewSource(seed)), &model{now: map[string]string{"a": "1", "b": "2"}}
		return func() *model {
			change(source, j, m)
			return m
		}
	}
	one, other, alone := New(l), New(l), New(l)
	stepOne, stepOther, stepAlone := run(1, one), run(2, other), run(2, alone)
	for range 500 {
		m := stepOne()
		one.Pairs()
		one.Get([]byte("a"))
		n := stepOther()
		mustBe(t, one, tell(m.pairs()), len(m.before))
		mustBe(t, other, tell(n.pairs()), len(n.before))
	}
	for range 500 {
		stepAlone()
	}
	mustBe(t, alone, tell(other.Pairs()), other.Mark())
}
