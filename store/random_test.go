package store

import (
	"bytes"
	"math/rand"
	"slices"
	"strings"
	"testing"

	"covenant/api"
)

// wantGet, wantPut and wantDel do what K1 and K2 say, pair by pair, on any list.
func wantGet(l []two, key string) (string, bool) {
	for _, p := range l {
		if p.key == key {
			return p.value, true
		}
	}
	return "", false
}

func wantPut(l []two, key, value string) ([]two, api.Errno) {
	if len(key) > 64 || len(value) > 256 {
		return nil, api.ErrArg
	}
	var m []two
	done := false
	_, is := wantGet(l, key)
	for _, p := range l {
		switch {
		case !done && is && p.key == key:
			p.value, done = value, true
		case !done && !is && p.key > key:
			m, done = append(m, two{key, value}), true
		}
		m = append(m, p)
	}
	if !done {
		m = append(m, two{key, value})
	}
	if sizeOf(m) > 2048 {
		return nil, api.ErrQuota
	}
	return m, api.OK
}

func wantDel(l []two, key string) []two {
	var m []two
	done := false
	for _, p := range l {
		if !done && p.key == key {
			done = true
			continue
		}
		m = append(m, p)
	}
	return m
}

// randomList is any list: equal keys, keys in any order, keys and values that are too long, and too many of them.
func randomList(source *rand.Rand) []two {
	var l []two
	most := []int{4, 14, 60}[source.Intn(3)]
	for range source.Intn(most) {
		l = append(l, two{randomText(source, api.MaxKey+1), randomText(source, api.MaxValue+1)})
	}
	return l
}

// P7.1: all functions do on any list what the document says.
func TestAnyLists(t *testing.T) {
	source := rand.New(rand.NewSource(1))
	found := map[api.Errno]int{}
	for range 50000 {
		l := randomList(source)
		key, value := randomText(source, api.MaxKey+1), randomText(source, api.MaxValue+1)
		if len(l) > 0 && source.Intn(2) == 0 {
			key = l[source.Intn(len(l))].key
		}
		v, is := Get(pairsOf(l), []byte(key))
		if want, wantIs := wantGet(l, key); string(v) != want || is != wantIs || !is && v != nil {
			t.Fatalf("Get(%q, %q) = %q, %v", l, key, v, is)
		}
		m, e := Put(pairsOf(l), []byte(key), []byte(value))
		if want, wantE := wantPut(l, key, value); !slices.Equal(twosOf(m), want) || e != wantE {
			t.Fatalf("Put(%q, %q, %q) = %q, %v", l, key, value, twosOf(m), e)
		}
		found[e]++
		if m := Del(pairsOf(l), []byte(key)); !slices.Equal(twosOf(m), wantDel(l, key)) {
			t.Fatalf("Del(%q, %q) = %q", l, key, twosOf(m))
		}
		if n := Size(pairsOf(l)); n != sizeOf(l) {
			t.Fatalf("Size(%q) = %d", l, n)
		}
		if b, e := Bytes(pairsOf(l)); (e == api.OK) != Right(pairsOf(l)) || e == api.OK && !bytes.Equal(b, written(l)) {
			t.Fatalf("Bytes(%q) = %x, %v", l, b, e)
		}
	}
	if found[api.OK] < 1000 || found[api.ErrArg] < 1000 || found[api.ErrQuota] < 100 {
		t.Errorf("the lists are too much alike: %v", found)
	}
}

// P7.2: what was put is found, what was deleted is not found, nothing else changes, and a valid store stays valid.
func TestPutAndDelOfValidStores(t *testing.T) {
	source := rand.New(rand.NewSource(2))
	for range 50 {
		var l []api.Pair
		at := map[string]string{}
		for range 300 {
			key, value := randomText(source, api.MaxKey), randomText(source, api.MaxValue)
			if source.Intn(3) == 0 {
				l = Del(l, []byte(key))
				delete(at, key)
			} else if m, e := Put(l, []byte(key), []byte(value)); e == api.OK {
				l, at[key] = m, value
			} else if e != api.ErrQuota {
				t.Fatal(e)
			}
			mustHave(t, l, at, key)
		}
	}
}

// mustHave fails unless the store is valid, and has these pairs and no other.
func mustHave(t *testing.T, l []api.Pair, at map[string]string, key string) {
	t.Helper()
	if !Right(l) || len(l) != len(at) {
		t.Fatalf("valid: %v, %d pairs of %d: %q", Right(l), len(l), len(at), twosOf(l))
	}
	for k, want := range at {
		if v, is := Get(l, []byte(k)); !is || string(v) != want {
			t.Fatalf("at %q, after a change at %q: %q, %v; want %q", k, key, v, is, want)
		}
	}
	if _, is := at[key]; !is {
		if v, is := Get(l, []byte(key)); is || v != nil {
			t.Fatalf("at %q: %q, %v; want nothing", key, v, is)
		}
	}
}

// P7.2: with an error, everything is as before; a store that is full takes what has room again.
func TestFullStore(t *testing.T) {
	l := pairsOf(sized(2048))
	before := twosOf(l)
	if m, e := Put(l, []byte("a"), nil); e != api.ErrQuota || m != nil || !slices.Equal(twosOf(l), before) {
		t.Errorf("Put to a full store: %q, %v", twosOf(m), e)
	}
	l = Del(l, []byte("kb"))
	l, e := Put(l, []byte("a"), bytes.Repeat([]byte("y"), 256))
	if v, is := Get(l, []byte("a")); e != api.OK || !is || len(v) != 256 || !Right(l) {
		t.Errorf("Put after Del: %v, %q, %v", e, v, is)
	}
}

// P7.2: Put at two keys does the same in both orders.
func TestPutInBothOrders(t *testing.T) {
	source := rand.New(rand.NewSource(3))
	put := func(l []api.Pair, p two) []api.Pair {
		m, e := Put(l, []byte(p.key), []byte(p.value))
		if e != api.OK {
			t.Fatalf("Put(%q, %q): %v", twosOf(l), p, e)
		}
		return m
	}
	for range 10000 {
		l := randomStore(source)
		for sizeOf(l) > 2048-2*328 {
			l = l[1:]
		}
		a, b := two{randomText(source, 64), "1"}, two{randomText(source, 64), "22"}
		if a.key == b.key {
			continue
		}
		one := put(put(pairsOf(l), a), b)
		other := put(put(pairsOf(l), b), a)
		if !slices.Equal(twosOf(one), twosOf(other)) || !Right(one) {
			t.Fatalf("%q and %q to %q: %q, and %q", a, b, l, twosOf(one), twosOf(other))
		}
	}
}

// P7.2: pairs that are put in any order stand in the order of their keys; those that are deleted again leave what was there.
func TestOrders(t *testing.T) {
	keys := strings.Split("|\x00|\x00\x00|A|a|a\x00|aa|ab|abc|b|\x7f|\x80|\xff|\xff\x00|\xff\xff", "|")
	want := list()
	for _, key := range keys {
		want = append(want, two{key, "v" + key})
	}
	source := rand.New(rand.NewSource(4))
	for range 500 {
		var l []api.Pair
		for _, i := range source.Perm(len(keys)) {
			m, e := Put(l, []byte(keys[i]), []byte("v"+keys[i]))
			if e != api.OK {
				t.Fatal(e)
			}
			if back := Del(m, []byte(keys[i])); !slices.Equal(twosOf(back), twosOf(l)) {
				t.Fatalf("%q, without %q: %q", twosOf(m), keys[i], twosOf(back))
			}
			l = m
		}
		if !slices.Equal(twosOf(l), want) {
			t.Fatalf("%q", twosOf(l))
		}
		for _, i := range source.Perm(len(keys)) {
			l = Del(l, []byte(keys[i]))
			if _, is := Get(l, []byte(keys[i])); is || !Right(l) {
				t.Fatalf("%q after Del of %q", twosOf(l), keys[i])
			}
		}
		if len(l) != 0 {
			t.Fatalf("%q after all were deleted", twosOf(l))
		}
	}
}
