package wire

import (
	"bytes"
	"math"
	"math/rand"
	"slices"
	"strings"
	"testing"

	"covenant/api"
)

// fill is n bytes that differ from their neighbours.
func fill(n int) []byte {
	b := make([]byte, n)
	for i := range b {
		b[i] = byte(i*7 + i>>8)
	}
	return b
}

// count is a length as four bytes, most significant byte first.
func count(n uint32) []byte {
	return []byte{byte(n >> 24), byte(n >> 16), byte(n >> 8), byte(n)}
}

// join is its arguments, one behind the other, with no spare capacity.
func join(parts ...[]byte) []byte {
	return slices.Clip(bytes.Join(parts, nil))
}

// manyRows is rows of all sizes, the greatest that may be among them.
func manyRows() [][][]byte {
	short := make([][]byte, api.MaxRow)
	for i := range short {
		short[i] = fill(i % 5)
	}
	same := fill(3)
	return [][][]byte{
		nil, {}, {nil}, {{}}, {nil, nil}, {{0}}, {{0}, {}, {1, 2}}, {{0, 0, 0, 0}},
		{same, same}, {fill(255), fill(256), fill(257)}, {fill(api.MaxBytes)},
		{fill(api.MaxBytes), {9}, fill(api.MaxBytes)}, make([][]byte, api.MaxRow), short,
	}
}

func equalRows(a, b [][]byte) bool { return slices.EqualFunc(a, b, bytes.Equal) }

// reads is the four functions that read, each with its results made alike: whether all but the error are zero, and what would be written back.
var reads = []struct {
	name string
	call func(b []byte, at int) (zero bool, again []byte, next int, e api.Errno)
}{
	{"Num", func(b []byte, at int) (bool, []byte, int, api.Errno) {
		n, next, e := Num(b, at)
		return n == 0 && next == 0, PutNum(n), next, e
	}},
	{"Bool", func(b []byte, at int) (bool, []byte, int, api.Errno) {
		is, next, e := Bool(b, at)
		return !is && next == 0, PutBool(is), next, e
	}},
	{"Bytes", func(b []byte, at int) (bool, []byte, int, api.Errno) {
		s, next, e := Bytes(b, at)
		again, _ := PutBytes(s)
		return len(s) == 0 && next == 0, again, next, e
	}},
	{"Row", func(b []byte, at int) (bool, []byte, int, api.Errno) {
		l, next, e := Row(b, at)
		again, _ := PutRow(l)
		return len(l) == 0 && next == 0, again, next, e
	}},
}

// P1.1, W1.
func TestPutNum(t *testing.T) {
	for _, c := range []struct {
		n    int64
		want string
	}{
		{0, "\x00\x00\x00\x00\x00\x00\x00\x00"},
		{1, "\x00\x00\x00\x00\x00\x00\x00\x01"},
		{-1, "\xff\xff\xff\xff\xff\xff\xff\xff"},
		{-2, "\xff\xff\xff\xff\xff\xff\xff\xfe"},
		{255, "\x00\x00\x00\x00\x00\x00\x00\xff"},
		{256, "\x00\x00\x00\x00\x00\x00\x01\x00"},
		{-256, "\xff\xff\xff\xff\xff\xff\xff\x00"},
		{math.MaxUint32, "\x00\x00\x00\x00\xff\xff\xff\xff"},
		{math.MinInt32, "\xff\xff\xff\xff\x80\x00\x00\x00"},
		{0x0102030405060708, "\x01\x02\x03\x04\x05\x06\x07\x08"},
		{math.MaxInt64, "\x7f\xff\xff\xff\xff\xff\xff\xff"},
		{math.MinInt64, "\x80\x00\x00\x00\x00\x00\x00\x00"},
	} {
		if b := PutNum(c.n); string(b) != c.want {
			t.Errorf("PutNum(%d) = %x, want %x", c.n, b, c.want)
		}
		if n, next, e := Num([]byte("ab"+c.want+"c"), 2); n != c.n || next != 10 || e != api.OK {
			t.Errorf("Num of %x = %d %d %v, want %d", c.want, n, next, e, c.n)
		}
	}
}

// P1.1, W1.
func TestNumTooShort(t *testing.T) {
	b := fill(12)
	for at := 0; at <= len(b); at++ {
		_, next, e := Num(b, at)
		if len(b)-at >= 8 && (next != at+8 || e != api.OK) {
			t.Errorf("Num at %d of 12: %d %v", at, next, e)
		}
		if len(b)-at < 8 && e != api.ErrEnd {
			t.Errorf("Num at %d of 12: %v, want ErrEnd", at, e)
		}
	}
}

// P1.1, W1.
func TestBool(t *testing.T) {
	if b := PutBool(true); string(b) != "\x01" {
		t.Errorf("PutBool(true) = %x", b)
	}
	if b := PutBool(false); string(b) != "\x00" {
		t.Errorf("PutBool(false) = %x", b)
	}
	for c := range 256 {
		want := api.ErrBool
		if c < 2 {
			want = api.OK
		}
		is, next, e := Bool([]byte{7, byte(c), 7}, 1)
		if e != want || is != (c == 1) || (next == 2) != (c < 2) {
			t.Errorf("Bool of %d = %v %d %v", c, is, next, e)
		}
	}
	if _, _, e := Bool([]byte{1}, 1); e != api.ErrEnd {
		t.Errorf("Bool at the end: %v", e)
	}
}

// P1.1: all functions that read look at the offset first.
func TestOffsets(t *testing.T) {
	for _, r := range reads {
		for _, b := range [][]byte{nil, {}, {2}, fill(3), fill(8), bytes.Repeat([]byte{255}, 40)} {
			for _, at := range []int{-1, -8, math.MinInt, len(b) + 1, len(b) + 8, math.MaxInt} {
				if zero, _, _, e := r.call(b, at); e != api.ErrArg || !zero {
					t.Errorf("%s of %d bytes at %d: zero %v, %v; want ErrArg", r.name, len(b), at, zero, e)
				}
			}
			if zero, _, _, e := r.call(b, len(b)); e != api.ErrEnd || !zero {
				t.Errorf("%s of %d bytes at their end: zero %v, %v; want ErrEnd", r.name, len(b), zero, e)
			}
		}
	}
}

// P1.1: what lies in the spare capacity of b is not there to be read.
func TestSpareCapacityIsNotRead(t *testing.T) {
	whole := join(count(1), count(3), []byte("abc"), fill(20))
	for _, r := range reads {
		if r.name == "Bool" {
			continue
		}
		for n := range 4 {
			if _, _, _, e := r.call(whole[:n], 0); e != api.ErrEnd {
				t.Errorf("%s of %d bytes: %v", r.name, n, e)
			}
		}
	}
	if _, _, e := Bool(whole[:3], 3); e != api.ErrEnd {
		t.Errorf("Bool at the end: %v", e)
	}
	if _, _, e := Bytes(whole[4:10], 0); e != api.ErrEnd {
		t.Errorf("Bytes of one byte too few: %v", e)
	}
	if _, _, e := Row(whole[:10], 0); e != api.ErrEnd {
		t.Errorf("Row of one byte too few: %v", e)
	}
}

// P1.1, W2.
func TestPutBytes(t *testing.T) {
	for _, n := range []int{0, 1, 2, 255, 256, 65535, api.MaxBytes} {
		s := fill(n)
		b, e := PutBytes(s)
		if want := join(count(uint32(n)), s); e != api.OK || !bytes.Equal(b, want) {
			t.Errorf("PutBytes of %d bytes: %d bytes, %v", n, len(b), e)
		}
	}
	if b, e := PutBytes(nil); e != api.OK || string(b) != "\x00\x00\x00\x00" {
		t.Errorf("PutBytes(nil) = %x %v", b, e)
	}
	for _, n := range []int{api.MaxBytes + 1, 2 * api.MaxBytes, 1 << 24} {
		if b, e := PutBytes(make([]byte, n)); len(b) != 0 || e != api.ErrTooMany {
			t.Errorf("PutBytes of %d bytes: %d bytes, %v", n, len(b), e)
		}
	}
}

// P1.1, W2.
func TestBytes(t *testing.T) {
	full := fill(api.MaxBytes)
	for _, c := range []struct {
		name string
		b    []byte
		want []byte
		e    api.Errno
	}{
		{"three bytes", []byte{0, 0, 0}, nil, api.ErrEnd},
		{"three bytes of a great length", []byte{255, 255, 255}, nil, api.ErrEnd},
		{"none", count(0), nil, api.OK},
		{"none, others behind", join(count(0), full), nil, api.OK},
		{"one", join(count(1), []byte("a")), []byte("a"), api.OK},
		{"one is lacking", []byte{0, 0, 0, 2, 0x61}, nil, api.ErrEnd},
		{"all are lacking", count(1), nil, api.ErrEnd},
		{"MaxBytes", join(count(api.MaxBytes), full), full, api.OK},
		{"MaxBytes, others behind", join(count(api.MaxBytes), full, full), full, api.OK},
		{"MaxBytes, one is lacking", join(count(api.MaxBytes), full[1:]), nil, api.ErrEnd},
		{"one longer", join(count(api.MaxBytes+1), full, []byte{1}), nil, api.ErrTooMany},
		{"one longer, and too few follow", count(api.MaxBytes + 1), nil, api.ErrTooMany},
		{"the highest bit", count(1 << 31), nil, api.ErrTooMany},
		{"the highest bit and one byte", join(count(1<<31+1), []byte{1}), nil, api.ErrTooMany},
		{"the greatest length", join(count(math.MaxUint32), full), nil, api.ErrTooMany},
	} {
		for _, at := range []int{0, 1, 5} {
			s, next, e := Bytes(join(fill(at), c.b), at)
			after := 0
			if c.e == api.OK {
				after = at + 4 + len(c.want)
			}
			if !bytes.Equal(s, c.want) || next != after || e != c.e {
				t.Errorf("Bytes, %s, at %d: %d bytes, %d, %v", c.name, at, len(s), next, e)
			}
		}
	}
}

// P1.1, W3.
func TestPutRow(t *testing.T) {
	for i, l := range manyRows() {
		want := count(uint32(len(l)))
		for _, s := range l {
			want = append(append(want, count(uint32(len(s)))...), s...)
		}
		if b, e := PutRow(l); e != api.OK || !bytes.Equal(b, want) {
			t.Errorf("PutRow of row %d: %d bytes, %v", i, len(b), e)
		}
	}
	long := make([]byte, api.MaxBytes+1)
	last := make([][]byte, api.MaxRow)
	last[api.MaxRow-1] = long
	for i, l := range [][][]byte{
		make([][]byte, api.MaxRow+1), make([][]byte, 1<<17), {long}, {{1}, long}, {long, {1}}, last,
		append([][]byte{long}, make([][]byte, api.MaxRow)...),
	} {
		if b, e := PutRow(l); len(b) != 0 || e != api.ErrTooMany {
			t.Errorf("PutRow of great row %d: %d bytes, %v", i, len(b), e)
		}
	}
}

// P1.1, W3.
func TestRow(t *testing.T) {
	empties := make([]byte, 4*(api.MaxRow+1))
	for _, c := range []struct {
		name string
		b    []byte
		want [][]byte
		e    api.Errno
	}{
		{"three bytes", []byte{0, 0, 0}, nil, api.ErrEnd},
		{"three bytes of a great number", []byte{255, 255, 255}, nil, api.ErrEnd},
		{"none", count(0), nil, api.OK},
		{"none, others behind", join(count(0), count(1)), nil, api.OK},
		{"an empty one", join(count(1), count(0)), [][]byte{nil}, api.OK},
		{"two", join(count(2), count(1), []byte("a"), count(2), []byte("bc")), [][]byte{[]byte("a"), []byte("bc")}, api.OK},
		{"the first is lacking", count(1), nil, api.ErrEnd},
		{"the second is lacking", join(count(2), count(1), []byte("a")), nil, api.ErrEnd},
		{"the second's length ends early", join(count(2), count(0), []byte{0, 0, 0}), nil, api.ErrEnd},
		{"the second ends early", join(count(2), count(0), count(2), []byte("b")), nil, api.ErrEnd},
		{"the first is too long", join(count(2), count(api.MaxBytes+1)), nil, api.ErrTooMany},
		{"the second is too long", join(count(2), count(0), count(api.MaxBytes+1)), nil, api.ErrTooMany},
		{"the first ends early, and its bytes are a great length", join(count(2), count(5), count(math.MaxUint32)), nil, api.ErrEnd},
		{"MaxRow", join(count(api.MaxRow), empties[4:]), make([][]byte, api.MaxRow), api.OK},
		{"MaxRow, the last is lacking", join(count(api.MaxRow), empties[8:]), nil, api.ErrEnd},
		{"one more", join(count(api.MaxRow+1), empties), nil, api.ErrTooMany},
		{"one more, and none follow", count(api.MaxRow + 1), nil, api.ErrTooMany},
		{"the highest bit", count(1 << 31), nil, api.ErrTooMany},
		{"the greatest number", join(count(math.MaxUint32), empties), nil, api.ErrTooMany},
	} {
		for _, at := range []int{0, 1, 5} {
			b := join(fill(at), c.b)
			l, next, e := Row(b, at)
			after := 0
			if c.e == api.OK {
				after = at + 4
				for _, s := range c.want {
					after += 4 + len(s)
				}
			}
			if !equalRows(l, c.want) || next != after || e != c.e {
				t.Errorf("Row, %s, at %d: %d byte strings, %d, %v", c.name, at, len(l), next, e)
			}
		}
	}
}

// surroundings is what may precede and follow bytes that are read.
var surroundings = []string{"", "\x00", "\xff", "\x00\x00\x00\x01", strings.Repeat("\xff", 9), strings.Repeat("\x00", 300)}

// P1.2: numbers and booleans that were written are read back.
func TestWrittenNumbersAreReadBack(t *testing.T) {
	numbers := []int64{0, 1, -1, math.MaxInt64, math.MinInt64}
	for i := range 63 {
		numbers = append(numbers, 1<<i, -1<<i, 1<<i-1, ^(1 << i))
	}
	for _, before := range surroundings {
		for _, behind := range surroundings {
			at := len(before)
			for _, n := range numbers {
				b := join([]byte(before), PutNum(n), []byte(behind))
				if m, next, e := Num(b, at); m != n || next != at+8 || e != api.OK {
					t.Fatalf("%d: %d %d %v", n, m, next, e)
				}
			}
			for _, is := range []bool{false, true} {
				b := join([]byte(before), PutBool(is), []byte(behind))
				if was, next, e := Bool(b, at); was != is || next != at+1 || e != api.OK {
					t.Fatalf("%v: %v %d %v", is, was, next, e)
				}
			}
		}
	}
}

// P1.2: byte strings and rows that were written are read back.
func TestWrittenTextsAreReadBack(t *testing.T) {
	for _, l := range manyRows() {
		row, e := PutRow(l)
		if e != api.OK {
			t.Fatal(e)
		}
		for i, before := range surroundings {
			behind := surroundings[len(surroundings)-1-i]
			at := len(before)
			m, next, e := Row(join([]byte(before), row, []byte(behind)), at)
			if !equalRows(m, l) || next != at+len(row) || e != api.OK {
				t.Fatalf("a row of %d: %d, %d, %v", len(l), len(m), next, e)
			}
		}
		for _, s := range l {
			text, e := PutBytes(s)
			if e != api.OK {
				t.Fatal(e)
			}
			for i, before := range surroundings {
				behind := surroundings[len(surroundings)-1-i]
				at := len(before)
				r, next, e := Bytes(join([]byte(before), text, []byte(behind)), at)
				if !bytes.Equal(r, s) || next != at+len(text) || e != api.OK {
					t.Fatalf("%d bytes: %d, %d, %v", len(s), len(r), next, e)
				}
			}
		}
	}
}

// P1.2: several things, one behind the other, are read back one by one.
func TestThingsBehindOneAnother(t *testing.T) {
	text, _ := PutBytes([]byte("text"))
	row, _ := PutRow([][]byte{[]byte("a"), nil, []byte("bc")})
	b := join(PutNum(-5), PutBool(true), text, row, PutBool(false), PutNum(6))
	n, at, e1 := Num(b, 0)
	yes, at, e2 := Bool(b, at)
	s, at, e3 := Bytes(b, at)
	l, at, e4 := Row(b, at)
	no, at, e5 := Bool(b, at)
	m, at, e6 := Num(b, at)
	for _, e := range []api.Errno{e1, e2, e3, e4, e5, e6} {
		if e != api.OK {
			t.Error(e)
		}
	}
	if n != -5 || !yes || string(s) != "text" || !equalRows(l, [][]byte{[]byte("a"), nil, []byte("bc")}) || no || m != 6 || at != len(b) {
		t.Error(n, yes, s, l, no, m, at)
	}
}

// P1.2 and P2: whatever bytes there are, what is read from them is written back as the same bytes; and what can't be read is zero.
func TestWhatWasReadIsWrittenBack(t *testing.T) {
	source := rand.New(rand.NewSource(1))
	got := map[string]int{}
	for range 20000 {
		b := make([]byte, source.Intn(40))
		for i := range b {
			// Small bytes, mostly 0, so that lengths are often such as fit.
			b[i] = byte(max(0, source.Intn(12)-8))
		}
		kept := bytes.Clone(b)
		for _, r := range reads {
			for at := -1; at <= len(b)+1; at++ {
				zero, again, next, e := r.call(b, at)
				if e == api.OK {
					got[r.name]++
				}
				if e == api.OK && (next <= at || next > len(b) || !bytes.Equal(again, b[at:next])) {
					t.Fatalf("%s of %x at %d: up to %d, written back as %x", r.name, b, at, next, again)
				}
				if e != api.OK && !zero {
					t.Fatalf("%s of %x at %d: more than zero beside %v", r.name, b, at, e)
				}
			}
		}
		if !bytes.Equal(b, kept) {
			t.Fatalf("%x was changed to %x", kept, b)
		}
	}
	for _, r := range reads {
		if got[r.name] < 1000 {
			t.Errorf("%s was seldom read: %d", r.name, got[r.name])
		}
	}
}

// wipe overwrites b and its spare capacity.
func wipe(b []byte) {
	b = b[:cap(b)]
	for i := range b {
		b[i] = 0xEE
	}
}

// P3: what is written is new memory, and what was passed is left as it was, its spare capacity too.
func TestWritersShareNothing(t *testing.T) {
	whole := []byte("abcdefgh")
	l := make([][]byte, 2, 4)
	l[0], l[1] = whole[:3:5], whole[5:6]
	spare := []byte("spare")
	l[:3][2] = spare
	text, _ := PutBytes(l[0])
	row, _ := PutRow(l)
	if text2, _ := PutBytes(whole[:3]); string(text2) != "\x00\x00\x00\x03abc" {
		t.Errorf("%x", text2)
	}
	wipe(text)
	if want := "\x00\x00\x00\x02\x00\x00\x00\x03abc\x00\x00\x00\x01f"; string(row) != want {
		t.Errorf("%x", row)
	}
	wipe(row)
	if string(whole) != "abcdefgh" || string(l[0]) != "abc" || string(l[1]) != "f" || string(l[:3][2]) != "spare" || l[:4][3] != nil {
		t.Errorf("%q %q", whole, l)
	}
	wipe(PutBool(true))
	wipe(PutBool(false))
	wipe(PutNum(3))
	if string(PutBool(true)) != "\x01" || string(PutBool(false)) != "\x00" || string(PutNum(3)) != "\x00\x00\x00\x00\x00\x00\x00\x03" {
		t.Error("a second answer is other than the first")
	}
}

// P3: what is read is new memory; no two byte strings of a row share any.
func TestReadersShareNothing(t *testing.T) {
	b := join(count(3), count(2), []byte("ab"), count(0), count(3), []byte("cde"))
	kept := bytes.Clone(b)
	s, _, e := Bytes(b, 4)
	l, _, f := Row(b, 0)
	if e != api.OK || f != api.OK {
		t.Fatal(e, f)
	}
	wipe(s)
	if !equalRows(l, [][]byte{[]byte("ab"), nil, []byte("cde")}) || !bytes.Equal(b, kept) {
		t.Errorf("%q %x", l, b)
	}
	wipe(l[0])
	wipe(l[1])
	if string(l[2]) != "cde" || !bytes.Equal(b, kept) {
		t.Errorf("%q %x", l, b)
	}
	wipe(l[2])
	if !bytes.Equal(b, kept) {
		t.Errorf("%x", b)
	}
	m, _, _ := Row(b, 0)
	wipe(b)
	if !equalRows(m, [][]byte{[]byte("ab"), nil, []byte("cde")}) {
		t.Errorf("%q", m)
	}
}
