package store

import (
	"bytes"
	"math/rand"
	"slices"
	"testing"

	"covenant/api"
)

// written is a store's bytes as the document says them: the number of byte strings, and each behind its length.
func written(l []two) []byte {
	var row []string
	for _, p := range l {
		row = append(row, p.key, p.value)
	}
	return rowOf(row...)
}

func count(n int) []byte { return []byte{byte(n >> 24), byte(n >> 16), byte(n >> 8), byte(n)} }

func rowOf(row ...string) []byte {
	b := count(len(row))
	for _, s := range row {
		b = append(append(b, count(len(s))...), s...)
	}
	return b
}

func mustNotRead(t *testing.T, what string, b []byte, want api.Errno) {
	t.Helper()
	if l, e := Read(b); e != want || l != nil {
		t.Errorf("Read of %s = %q, %v; want %v", what, twosOf(l), e, want)
	}
}

// P7.1, K4.
func TestBytes(t *testing.T) {
	b, e := Bytes(pairsOf(list("a", "xyz", "b", "")))
	if want := "\x00\x00\x00\x04\x00\x00\x00\x01a\x00\x00\x00\x03xyz\x00\x00\x00\x01b\x00\x00\x00\x00"; e != api.OK || string(b) != want {
		t.Errorf("Bytes = %x, %v; want %x", b, e, want)
	}
	for _, l := range rightLists() {
		if b, e := Bytes(pairsOf(l)); e != api.OK || !bytes.Equal(b, written(l)) {
			t.Errorf("Bytes(%q) = %x, %v", l, b, e)
		}
	}
	if b, e := Bytes([]api.Pair{{}}); e != api.OK || !bytes.Equal(b, rowOf("", "")) {
		t.Errorf("Bytes of a pair of nil and nil: %x, %v", b, e)
	}
}

// P7.1, K4.
func TestBytesOfWrongLists(t *testing.T) {
	long := slices.Repeat(list("", ""), 600) // more byte strings than a row has room for
	for _, l := range append(wrongLists(), long) {
		if b, e := Bytes(pairsOf(l)); e != api.ErrArg || b != nil {
			t.Errorf("Bytes(%q) = %x, %v", l, b, e)
		}
	}
}

// P7.1, K4, and P7.3.
func TestRead(t *testing.T) {
	for _, l := range rightLists() {
		m, e := Read(written(l))
		if e != api.OK || !slices.Equal(twosOf(m), l) {
			t.Errorf("Read of the bytes of %q = %q, %v", l, twosOf(m), e)
		}
		if b, e := Bytes(m); e != api.OK || !bytes.Equal(b, written(l)) {
			t.Errorf("%q, written again: %x, %v", l, b, e)
		}
	}
}

// P7.1, K4: the errors of wire's row.
func TestReadErrorsOfTheRow(t *testing.T) {
	for n := range 4 {
		mustNotRead(t, "too few bytes for a number", make([]byte, n), api.ErrEnd)
	}
	mustNotRead(t, "nil", nil, api.ErrEnd)
	mustNotRead(t, "no first byte string", count(2), api.ErrEnd)
	mustNotRead(t, "no second byte string", append(count(2), rowOf("a")[4:]...), api.ErrEnd)
	mustNotRead(t, "half a length", append(count(2), 0, 0, 0), api.ErrEnd)
	mustNotRead(t, "half a byte string", slices.Concat(count(2), count(2), []byte("a")), api.ErrEnd)
	mustNotRead(t, "1024 byte strings that are not there", count(1024), api.ErrEnd)
	mustNotRead(t, "1025 byte strings", rowOf(make([]string, 1025)...), api.ErrTooMany)
	mustNotRead(t, "more byte strings than an int of 32 bits holds", []byte{0xff, 0xff, 0xff, 0xff}, api.ErrTooMany)
	mustNotRead(t, "a byte string that is too long for a row", rowOf("a", text(65537)), api.ErrTooMany)
	mustNotRead(t, "a length without its bytes", append(count(1), count(65536)...), api.ErrEnd)
	mustNotRead(t, "a length that is too great", append(count(1), 0xff, 0xff, 0xff, 0xff), api.ErrTooMany)
}

// P7.1, K4: the error of the row comes first.
func TestReadOrderOfErrors(t *testing.T) {
	mustNotRead(t, "an odd number of byte strings, the last cut off", slices.Concat(count(3), rowOf("b", "1", "a")[4:12]), api.ErrEnd)
	mustNotRead(t, "keys out of order, a value too long for a row", rowOf("b", "1", "a", text(65537)), api.ErrTooMany)
	mustNotRead(t, "a key too long for a store, and no value", slices.Concat(count(2), rowOf(text(65))[4:]), api.ErrEnd)
	mustNotRead(t, "1025 byte strings and bytes behind", append(rowOf(make([]string, 1025)...), 0), api.ErrTooMany)
}

// P7.1, K4.
func TestReadWrongStores(t *testing.T) {
	for _, l := range rightLists() {
		for _, behind := range []string{"\x00", "x", "\x00\x00\x00\x00", "\x00\x00\x00\x01a"} {
			mustNotRead(t, "bytes with others behind them", append(written(l), behind...), api.ErrCode)
		}
		row := []string{"\x00"}
		for _, p := range l {
			row = append(row, p.key, p.value)
		}
		mustNotRead(t, "an odd number of byte strings", rowOf(row...), api.ErrCode)
		mustNotRead(t, "a last key without a value", rowOf(append(row, "")[1:]...), api.ErrCode)
	}
	for _, l := range wrongLists() {
		if len(l[0].key) > api.MaxBytes {
			mustNotRead(t, "a key that is too long for a row", written(l), api.ErrTooMany)
			continue
		}
		mustNotRead(t, "pairs that are not valid", written(l), api.ErrCode)
	}
	mustNotRead(t, "the longest row", rowOf(make([]string, 1024)...), api.ErrCode)
	mustNotRead(t, "a value as long as a row has room for", rowOf("a", text(65536)), api.ErrCode)
	mustNotRead(t, "a key as long as a row has room for", rowOf(text(65536), "a"), api.ErrCode)
}

// P7.1, K4: a beginning of a store's bytes is none, nor is what lies in the spare capacity read.
func TestReadBeginnings(t *testing.T) {
	for _, l := range rightLists() {
		b := written(l)
		for n := range b {
			mustNotRead(t, "a beginning", slices.Clone(b[:n]), api.ErrEnd)
			mustNotRead(t, "a beginning with the rest behind", b[:n], api.ErrEnd)
		}
		if m, e := Read(append(b, "xyz"...)[:len(b)]); e != api.OK || !slices.Equal(twosOf(m), l) {
			t.Errorf("%q with spare capacity: %q, %v", l, twosOf(m), e)
		}
	}
}

// randomStore is a valid store that was made without Put.
func randomStore(source *rand.Rand) []two {
	at := map[string]string{}
	for range source.Intn(12) {
		at[randomText(source, api.MaxKey)] = randomText(source, api.MaxValue)
	}
	var l []two
	for key, value := range at {
		l = append(l, two{key, value})
	}
	slices.SortFunc(l, func(a, b two) int { return bytes.Compare([]byte(a.key), []byte(b.key)) })
	for sizeOf(l) > api.MaxStore {
		l = l[1:]
	}
	return l
}

// randomText is mostly short, so that some are equal or the beginning of another, and sometimes as long as may be.
func randomText(source *rand.Rand, most int) string {
	n := source.Intn(4)
	if source.Intn(8) == 0 {
		n = most - source.Intn(2)
	}
	b := make([]byte, n)
	for i := range b {
		b[i] = "\x00a\x7f\x80\xff"[source.Intn(5)]
	}
	return string(b)
}

// P7.3: bytes are read back as the same pairs.
func TestRoundTrip(t *testing.T) {
	source := rand.New(rand.NewSource(7))
	for range 5000 {
		l := randomStore(source)
		b, e := Bytes(pairsOf(l))
		m, f := Read(b)
		if e != api.OK || f != api.OK || !slices.Equal(twosOf(m), l) {
			t.Fatalf("%q: %v, read back as %q, %v", l, e, twosOf(m), f)
		}
	}
}

// P7.3: different stores have different bytes.
func TestDifferentStores(t *testing.T) {
	seen := map[string][]two{}
	see := func(l []two) {
		b, e := Bytes(pairsOf(l))
		if e != api.OK {
			t.Fatalf("Bytes(%q): %v", l, e)
		}
		if other, is := seen[string(b)]; is && !slices.Equal(other, l) {
			t.Fatalf("%q and %q have the same bytes", l, other)
		}
		seen[string(b)] = l
	}
	texts := []string{"", "\x00", "\x00\x00", "\x00\x00\x00\x00", "\x00\x00\x00\x01", "\x00\x00\x00\x01a", "a", "ab", "b"}
	see(nil)
	for i, key := range texts {
		for _, value := range texts {
			see(list(key, value))
			for _, above := range texts[i+1:] {
				for _, other := range texts {
					see(list(key, value, above, other))
				}
			}
		}
	}
	if want := 1 + 9*9 + 36*81; len(seen) != want {
		t.Errorf("%d stores have different bytes, of %d", len(seen), want)
	}
	source := rand.New(rand.NewSource(8))
	for range 5000 {
		see(randomStore(source))
	}
}

// P7.3: no store has two kinds of bytes; P1: whatever the bytes are, Read ends, and without an error what it returns is valid.
func TestReadOfSpoiltBytes(t *testing.T) {
	source := rand.New(rand.NewSource(9))
	good := 0
	for range 100000 {
		b := written(randomStore(source))
		for range 1 + source.Intn(2) {
			at := source.Intn(len(b))
			switch source.Intn(4) {
			case 0:
				b[at] ^= 1 << source.Intn(8)
			case 1:
				b[at] = byte(source.Intn(3))
			case 2:
				b = slices.Delete(b, at, min(at+1+source.Intn(5), len(b)-1))
			case 3:
				b = slices.Insert(b, at, byte(source.Intn(2)))
			}
		}
		l, e := Read(b)
		if e != api.OK {
			if l != nil || e != api.ErrEnd && e != api.ErrTooMany && e != api.ErrCode {
				t.Fatalf("Read(%x) = %q, %v", b, twosOf(l), e)
			}
			continue
		}
		good++
		if again, e := Bytes(l); !Right(l) || e != api.OK || !bytes.Equal(again, b) {
			t.Fatalf("Read(%x) = %q, valid %v, which is written as %x, %v", b, twosOf(l), Right(l), again, e)
		}
	}
	if good < 1000 {
		t.Errorf("only %d of the spoilt bytes were a store", good)
	}
}
