package store

import (
	"slices"
	"strings"
	"testing"

	"covenant/api"
)

// two is a pair as texts, which nobody can change; a list of them is what a store should be.
type two struct{ key, value string }

func pairsOf(l []two) []api.Pair {
	var m []api.Pair
	for _, p := range l {
		m = append(m, api.Pair{Key: []byte(p.key), Value: []byte(p.value)})
	}
	return m
}

func twosOf(l []api.Pair) []two {
	var m []two
	for _, p := range l {
		m = append(m, two{string(p.Key), string(p.Value)})
	}
	return m
}

// list is pairs of keys and values by turns.
func list(texts ...string) []two {
	var l []two
	for i := 0; i < len(texts); i += 2 {
		l = append(l, two{texts[i], texts[i+1]})
	}
	return l
}

// text is a text of so many bytes.
func text(n int) string { return strings.Repeat("x", n) }

// sized is a store of this size, at least 10, whose keys are ka, kb and so on; only its size may be more than is valid.
func sized(n int) []two {
	var l []two
	for c := 'a'; n > 0; c++ {
		rest := n - 10
		value := min(rest, api.MaxValue)
		if left := rest - value; left > 0 && left < 10 {
			value -= 10 // or else no pair has room in what is left
		}
		l = append(l, two{"k" + string(c), text(value)})
		n = rest - value
	}
	return l
}

func sizeOf(l []two) int {
	n := 0
	for _, p := range l {
		n += 8 + len(p.key) + len(p.value)
	}
	return n
}

func mustPut(t *testing.T, l []two, key, value string, want []two) {
	t.Helper()
	if m, e := Put(pairsOf(l), []byte(key), []byte(value)); e != api.OK || !slices.Equal(twosOf(m), want) {
		t.Errorf("Put(%q, %q, %q) = %q, %v; want %q", l, key, value, twosOf(m), e, want)
	}
}

func mustRefuse(t *testing.T, l []two, key, value string, want api.Errno) {
	t.Helper()
	if m, e := Put(pairsOf(l), []byte(key), []byte(value)); e != want || m != nil {
		t.Errorf("Put(%d pairs of size %d, key of %d, value of %d) = %q, %v; want %v", len(l), sizeOf(l), len(key), len(value), twosOf(m), e, want)
	}
}

func mustDel(t *testing.T, l []two, key string, want []two) {
	t.Helper()
	if m := Del(pairsOf(l), []byte(key)); !slices.Equal(twosOf(m), want) {
		t.Errorf("Del(%q, %q) = %q; want %q", l, key, twosOf(m), want)
	}
}

func mustFind(t *testing.T, l []two, key, want string) {
	t.Helper()
	if v, is := Get(pairsOf(l), []byte(key)); !is || string(v) != want {
		t.Errorf("Get(%q, %q) = %q, %v; want %q", l, key, v, is, want)
	}
}

func mustMiss(t *testing.T, l []two, key string) {
	t.Helper()
	if v, is := Get(pairsOf(l), []byte(key)); is || v != nil {
		t.Errorf("Get(%q, %q) = %q, %v; want nil, false", l, key, v, is)
	}
}

func mustRight(t *testing.T, l []two, want bool) {
	t.Helper()
	if is := Right(pairsOf(l)); is != want {
		t.Errorf("Right(%q) = %v", l, is)
	}
}

// wrongLists are lists that are not valid, one for each reason, and for all of them together.
func wrongLists() [][]two {
	return [][]two{
		list("a", "1", "a", "2"),
		list("a", "1", "a", "1"),
		list("", "", "", ""),
		list("a", "1", "b", "2", "b", "3", "c", "4"),
		list("b", "1", "a", "2"),
		list("a", "1", "", "2"),
		list("ab", "1", "a", "2"),
		list("\x80", "1", "\x7f", "2"),
		list("\x00\x00", "1", "\x00", "2"),
		list("a", "1", "c", "2", "b", "3", "d", "4"),
		list(text(65), "1"),
		list("a", "1", text(65), "2"),
		list("a", text(257)),
		list("a", "1", "b", text(257), "c", "2"),
		list(text(1<<17), text(1<<17)),
		sized(2049),
		append(sized(2049), two{"a", text(257)}, two{"a", ""}, two{text(65), ""}),
	}
}

// rightLists are valid stores, those at the edges among them.
func rightLists() [][]two {
	return [][]two{
		nil,
		list("", ""),
		list("", "1"),
		list("a", ""),
		list("", "", "\x00", "", "\x00\x00", "", "\x01", ""),
		list("a", "1", "ab", "2", "abc", "3", "b", "4"),
		list("A", "1", "a", "1", "\x7f", "1", "\x80", "1", "\xff", "1", "\xff\xff", "1"),
		list(text(64), text(256)),
		list(text(63), text(255), text(64), text(256)),
		sized(8 + 2),
		sized(2047),
		sized(2048),
		manyPairs(),
	}
}

// manyPairs is as many pairs as a valid store has room for.
func manyPairs() []two {
	l := list("", "123456")
	for c := range 226 {
		l = append(l, two{string([]byte{byte(c)}), ""})
	}
	return l
}

// P7.1: the document's examples.
func TestExamples(t *testing.T) {
	l, e := Put(nil, []byte("b"), nil)
	m, f := Put(l, []byte("a"), nil)
	if e != api.OK || f != api.OK || !slices.Equal(twosOf(m), list("a", "", "b", "")) {
		t.Errorf("Put of b, then a: %q, %v, %v", twosOf(m), e, f)
	}
	for _, l := range [][]api.Pair{nil, {}} {
		if b, e := Bytes(l); e != api.OK || string(b) != "\x00\x00\x00\x00" {
			t.Errorf("Bytes of no pairs: %x, %v", b, e)
		}
	}
}

// P7.1, K1.
func TestGet(t *testing.T) {
	l := list("", "none", "a", "1", "ab", "2", "abc", "", "b", "\x00\xff", "\xff", text(256))
	for _, p := range l {
		mustFind(t, l, p.key, p.value)
	}
	for _, key := range []string{"\x00", "A", "a\x00", "aa", "abb", "abcd", "ac", "ba", "c", "\xfe", "\xff\x00", text(64), text(65), text(1 << 17)} {
		mustMiss(t, l, key)
		mustMiss(t, nil, key)
	}
	mustMiss(t, nil, "")
	mustMiss(t, l[1:], "")
	for _, key := range [][]byte{nil, {}} {
		if v, is := Get([]api.Pair{{Key: []byte("a")}, {}}, key); !is || len(v) != 0 {
			t.Errorf("Get of an empty key: %q, %v", v, is)
		}
		if v, is := Get([]api.Pair{{Key: []byte{}, Value: []byte("v")}}, key); !is || string(v) != "v" {
			t.Errorf("Get of an empty key: %q, %v", v, is)
		}
	}
}

// P7.1, K1: lists that are not valid are treated like any others.
func TestGetOfWrongLists(t *testing.T) {
	for _, l := range wrongLists() {
		for _, p := range l {
			first := slices.IndexFunc(l, func(o two) bool { return o.key == p.key })
			mustFind(t, l, p.key, l[first].value)
		}
		mustMiss(t, l, "no such key")
		mustMiss(t, l, "aa")
	}
	mustFind(t, list("c", "1", "a", "2", "b", "3", "a", "4"), "a", "2")
	mustFind(t, list("c", "1", "a", "2", "b", "3"), "b", "3")
}

// P7.1, K2.
func TestPutPlaces(t *testing.T) {
	l := list("b", "1", "d", "2", "f", "3")
	mustPut(t, l, "a", "0", list("a", "0", "b", "1", "d", "2", "f", "3"))
	mustPut(t, l, "", "0", list("", "0", "b", "1", "d", "2", "f", "3"))
	mustPut(t, l, "c", "0", list("b", "1", "c", "0", "d", "2", "f", "3"))
	mustPut(t, l, "e", "0", list("b", "1", "d", "2", "e", "0", "f", "3"))
	mustPut(t, l, "g", "0", list("b", "1", "d", "2", "f", "3", "g", "0"))
	mustPut(t, l, "b", "0", list("b", "0", "d", "2", "f", "3"))
	mustPut(t, l, "d", "0", list("b", "1", "d", "0", "f", "3"))
	mustPut(t, l, "f", "0", list("b", "1", "d", "2", "f", "0"))
	mustPut(t, l, "d", "2", l)
	mustPut(t, l, "d", "", list("b", "1", "d", "", "f", "3"))
	mustPut(t, nil, "a", "0", list("a", "0"))
	mustPut(t, nil, "", "", list("", ""))
	mustPut(t, list("", "1"), "", "2", list("", "2"))
}

// P7.1, K2: keys of which one is the beginning of another, and bytes that are less as signed ones.
func TestPutOrder(t *testing.T) {
	l := list("ab", "1")
	mustPut(t, l, "a", "0", list("a", "0", "ab", "1"))
	mustPut(t, l, "abc", "0", list("ab", "1", "abc", "0"))
	mustPut(t, l, "ab\x00", "0", list("ab", "1", "ab\x00", "0"))
	mustPut(t, l, "aa\xff", "0", list("aa\xff", "0", "ab", "1"))
	mustPut(t, l, "b", "0", list("ab", "1", "b", "0"))
	mustPut(t, l, "\x80", "0", list("ab", "1", "\x80", "0"))
	mustPut(t, list("\x7f", "1", "\xff", "2"), "\x80", "0", list("\x7f", "1", "\x80", "0", "\xff", "2"))
	mustPut(t, list("\x00\x00", "1"), "\x00", "0", list("\x00", "0", "\x00\x00", "1"))
	mustPut(t, list("a", "1", "abc", "2"), "ab", "0", list("a", "1", "ab", "0", "abc", "2"))
}

// P7.1, K2.
func TestPutTooLong(t *testing.T) {
	mustPut(t, nil, text(64), text(256), list(text(64), text(256)))
	for _, l := range [][]two{nil, list("a", "1"), list(text(65), "1"), sized(2048), sized(2049)} {
		mustRefuse(t, l, text(65), "", api.ErrArg)
		mustRefuse(t, l, "", text(257), api.ErrArg)
		mustRefuse(t, l, "a", text(257), api.ErrArg)
		mustRefuse(t, l, text(65), text(257), api.ErrArg)
		mustRefuse(t, l, text(1<<17), text(1<<17), api.ErrArg)
	}
}

// P7.1, K2: a new pair, ahead, between and behind, at the edge of what there is room for.
func TestPutQuotaOfNewPair(t *testing.T) {
	for _, key := range []string{"", "a", "kaa", "z", text(64)} {
		for _, value := range []string{"", "1", text(256)} {
			need := 8 + len(key) + len(value)
			l := sized(2048 - need)
			if m, e := Put(pairsOf(l), []byte(key), []byte(value)); e != api.OK || Size(m) != 2048 || !Right(m) || len(m) != len(l)+1 {
				t.Errorf("Put(%q, %d bytes) up to 2048: %d, %v", key, len(value), Size(m), e)
			}
			mustRefuse(t, sized(2049-need), key, value, api.ErrQuota)
		}
	}
	mustRefuse(t, sized(2048), "", "", api.ErrQuota)
	mustRefuse(t, sized(2041), "", "", api.ErrQuota)
	mustPut(t, sized(2040), "", "", append(list("", ""), sized(2040)...))
}

// P7.1, K2: another value at a key that is there.
func TestPutQuotaOfLongerValue(t *testing.T) {
	l := list("a", text(256), "b", text(256), "c", text(256), "d", text(256), "e", text(256), "f", text(256), "g", text(256), "h", text(182))
	if sizeOf(l) != 2046 {
		t.Fatal(sizeOf(l))
	}
	for n := range 257 {
		at := slices.Clone(l)
		at[7].value = text(n)
		if n <= 184 {
			mustPut(t, l, "h", text(n), at)
		} else {
			mustRefuse(t, l, "h", text(n), api.ErrQuota)
		}
	}
	full := slices.Clone(l)
	full[7].value = text(184)
	mustPut(t, full, "h", strings.Repeat("y", 184), append(slices.Clone(l[:7]), two{"h", strings.Repeat("y", 184)}))
	mustPut(t, full, "a", "", append(list("a", ""), full[1:]...))
}

// P7.1, K2: of a list that is too great already, the size of the result counts.
func TestPutQuotaOfWrongLists(t *testing.T) {
	l := list("a", text(1900), "b", text(256))
	mustRefuse(t, l, "a", text(256)+"x", api.ErrArg)
	mustPut(t, l, "a", text(256), list("a", text(256), "b", text(256)))
	mustRefuse(t, l, "b", text(131), api.ErrQuota)
	mustPut(t, l, "b", text(130), list("a", text(1900), "b", text(130)))
	mustRefuse(t, l, "b", text(256), api.ErrQuota)
	mustRefuse(t, list(text(65), text(1<<17)), "a", "", api.ErrQuota)
	mustRefuse(t, slices.Repeat(list("", ""), 256), "a", "", api.ErrQuota)
	mustRefuse(t, slices.Repeat(list("", ""), 257), "", "", api.ErrQuota)
	mustPut(t, slices.Repeat(list("", ""), 256), "", "", slices.Repeat(list("", ""), 256))
}

// P7.1, K2: of several equal keys the first one counts, and a new pair comes before the first greater key.
func TestPutToWrongLists(t *testing.T) {
	mustPut(t, list("a", "1", "a", "2"), "a", "0", list("a", "0", "a", "2"))
	mustPut(t, list("a", "1", "b", "2", "b", "3", "c", "4"), "b", "0", list("a", "1", "b", "0", "b", "3", "c", "4"))
	mustPut(t, list("b", "1", "a", "2", "b", "3", "a", "4"), "a", "0", list("b", "1", "a", "0", "b", "3", "a", "4"))
	mustPut(t, list("c", "1", "a", "2"), "b", "0", list("b", "0", "c", "1", "a", "2"))
	mustPut(t, list("a", "1", "d", "2", "b", "3", "e", "4"), "c", "0", list("a", "1", "c", "0", "d", "2", "b", "3", "e", "4"))
	mustPut(t, list("c", "1", "b", "2", "a", "3"), "d", "0", list("c", "1", "b", "2", "a", "3", "d", "0"))
	mustPut(t, list("c", "1", "b", "2", "a", "3"), "a", "0", list("c", "1", "b", "2", "a", "0"))
	mustPut(t, list("b", "1", "b", "2"), "a", "0", list("a", "0", "b", "1", "b", "2"))
	mustPut(t, list("b", "1", "b", "2"), "c", "0", list("b", "1", "b", "2", "c", "0"))
	mustPut(t, list(text(65), "1", "z", text(257)), "y", "0", list(text(65), "1", "y", "0", "z", text(257)))
	mustPut(t, list(text(65), "1", "z", text(257)), "z", "0", list(text(65), "1", "z", "0"))
}

// P7.1, K2.
func TestDel(t *testing.T) {
	l := list("", "0", "a", "1", "ab", "2", "b", "3")
	mustDel(t, l, "", l[1:])
	mustDel(t, l, "a", list("", "0", "ab", "2", "b", "3"))
	mustDel(t, l, "ab", list("", "0", "a", "1", "b", "3"))
	mustDel(t, l, "b", l[:3])
	for _, key := range []string{"\x00", "a\x00", "aa", "abc", "ba", "c", text(65), text(1 << 17)} {
		mustDel(t, l, key, l)
		mustDel(t, nil, key, nil)
	}
	mustDel(t, nil, "", nil)
	mustDel(t, l[1:], "", l[1:])
	mustDel(t, list("a", "1"), "a", nil)
	if m := Del([]api.Pair{{Key: []byte{}}}, nil); len(m) != 0 {
		t.Errorf("Del of an empty key: %q", twosOf(m))
	}
}

// P7.1, K2: of several equal keys the first one counts.
func TestDelOfWrongLists(t *testing.T) {
	mustDel(t, list("a", "1", "a", "2", "a", "3"), "a", list("a", "2", "a", "3"))
	mustDel(t, list("b", "1", "a", "2", "b", "3", "a", "4"), "a", list("b", "1", "b", "3", "a", "4"))
	mustDel(t, list("c", "1", "b", "2", "a", "3"), "a", list("c", "1", "b", "2"))
	mustDel(t, list("c", "1", "b", "2", "a", "3"), "c", list("b", "2", "a", "3"))
	mustDel(t, list("c", "1", "b", "2", "a", "3"), "d", list("c", "1", "b", "2", "a", "3"))
	mustDel(t, list(text(65), "1", "b", text(257)), text(65), list("b", text(257)))
	mustDel(t, list(text(65), "1", "b", text(257)), "b", list(text(65), "1"))
	mustDel(t, sized(3000), "ka", sized(3000)[1:])
	mustDel(t, sized(3000), "z", sized(3000))
}

// P7.1, K3.
func TestSize(t *testing.T) {
	for _, c := range []struct {
		l    []two
		want int
	}{
		{nil, 0}, {list("", ""), 8}, {list("a", ""), 9}, {list("", "b"), 9}, {list("abc", "de"), 13}, {list("a", "b", "cd", "efg"), 10 + 13},
		{list(text(64), text(256)), 328}, {list(text(65), text(257)), 330}, {list("a", "1", "a", "1"), 20}, {list("b", "1", "a", "1"), 20}, {list(text(1<<17), text(1<<17)), 8 + 1<<18},
		{slices.Repeat(list("", ""), 1000), 8000}, {manyPairs(), 2048},
	} {
		if n := Size(pairsOf(c.l)); n != c.want {
			t.Errorf("Size(%q) = %d, want %d", c.l, n, c.want)
		}
	}
	for n := 10; n < 3000; n++ {
		if l := pairsOf(sized(n)); Size(l) != n || Right(l) != (n <= 2048) {
			t.Errorf("a store of size %d: Size %d, Right %v", n, Size(l), Right(l))
		}
	}
	if Size([]api.Pair{}) != 0 {
		t.Error("Size of an empty list")
	}
}

// P7.1, K3.
func TestRight(t *testing.T) {
	for _, l := range rightLists() {
		mustRight(t, l, true)
	}
	for _, l := range wrongLists() {
		mustRight(t, l, false)
	}
	if !Right([]api.Pair{}) || !Right([]api.Pair{{}}) || Right([]api.Pair{{}, {Key: []byte{}}}) {
		t.Error("Right of empty lists and keys")
	}
	mustRight(t, slices.Repeat(list("", ""), 2), false)
}

// P7.1, K3: whichever pair is wrong, the store is not valid.
func TestRightLooksAtAll(t *testing.T) {
	l := list("a", "1", "b", "2", "c", "3", "d", "4", "e", "5")
	mustRight(t, l, true)
	for i := range l {
		for j := range l {
			m := slices.Clone(l)
			m[i], m[j] = m[j], m[i]
			mustRight(t, m, i == j)
			m = slices.Clone(l)
			m[i].key = m[j].key
			mustRight(t, m, i == j)
		}
		for _, n := range []int{63, 64, 65, 66} {
			m := slices.Clone(l)
			m[i].key += text(n - 1)
			mustRight(t, m, n <= 64)
		}
		for _, n := range []int{255, 256, 257, 258} {
			m := slices.Clone(l)
			m[i].value = text(n)
			mustRight(t, m, n <= 256)
		}
	}
}
