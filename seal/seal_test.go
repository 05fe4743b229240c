package seal

import (
	"bytes"
	"hash/crc32"
	"math/bits"
	"math/rand"
	"slices"
	"strings"
	"testing"

	"covenant/api"
)

// fill is n bytes that differ from their neighbours.
func fill(n int) []byte {
	b := make([]byte, n)
	for i := range b {
		b[i] = byte(i*7 + i>>8)
	}
	return b
}

// sumByBits is the checksum bit by bit, as the document words it.
func sumByBits(b []byte) uint32 {
	register := uint32(0xFFFFFFFF)
	for _, c := range b {
		register ^= uint32(c)
		for range 8 {
			out := register & 1
			register >>= 1
			if out == 1 {
				register ^= 0x82F63B78
			}
		}
	}
	return ^register
}

// sealByBits is b sealed, by a checksum that is not the package's own.
func sealByBits(b []byte) []byte {
	n := sumByBits(b)
	return slices.Concat([]byte{byte(n >> 24), byte(n >> 16), byte(n >> 8), byte(n)}, b)
}

// contents is bytes of all sorts to be sealed.
func contents() [][]byte {
	l := [][]byte{
		nil, {}, {0}, {1}, {0x7F}, {0x80}, {0xFF}, {0, 0}, {0, 0, 0, 0}, {0xFF, 0xFF, 0xFF, 0xFF},
		[]byte("123456789"), []byte("a"), bytes.Repeat([]byte{0}, 100), bytes.Repeat([]byte{0xFF}, 100),
		fill(api.MaxBytes), fill(api.MaxBytes + 1), fill(1 << 20),
	}
	for n := range 70 {
		l = append(l, fill(n))
	}
	// A seal may itself be sealed: what is sealed is any bytes.
	return append(l, sealByBits([]byte("123456789")), sealByBits(nil))
}

// mustSpoil fails unless the bytes yield ErrSum, and nothing beside it.
func mustSpoil(t *testing.T, what string, b []byte) {
	t.Helper()
	if s, e := Open(b); s != nil || e != api.ErrSum {
		t.Fatalf("%s: Open = %d bytes (nil %v), %v; want nil, ErrSum", what, len(s), s == nil, e)
	}
}

// P2.1, S1.
func TestSumOfKnownBytes(t *testing.T) {
	up, down := make([]byte, 32), make([]byte, 32)
	for i := range up {
		up[i], down[31-i] = byte(i), byte(i)
	}
	for _, c := range []struct {
		b    string
		want uint32
	}{
		{"123456789", 0xE3069283},
		{"", 0},
		{"a", 0xC1D04330},
		{"abc", 0x364B3FB7},
		{"\x00", 0x527D5351},
		{strings.Repeat("\x00", 32), 0x8A9136AA},
		{strings.Repeat("\xff", 32), 0x62A8AB43},
		{string(up), 0x46DD794E},
		{string(down), 0x113FDB5C},
	} {
		if n := Sum([]byte(c.b)); n != c.want {
			t.Errorf("Sum(%q) = %08X, want %08X", c.b, n, c.want)
		}
	}
	if n := Sum(nil); n != 0 {
		t.Errorf("Sum(nil) = %08X", n)
	}
}

// P2.1, S1.
func TestSumIsThatOfTheBits(t *testing.T) {
	for c := range 256 {
		for d := range 256 {
			if b := []byte{byte(c), byte(d)}; Sum(b) != sumByBits(b) || Sum(b[:1]) != sumByBits(b[:1]) {
				t.Fatalf("Sum(%x) = %08X, want %08X", b, Sum(b), sumByBits(b))
			}
		}
	}
	castagnoli := crc32.MakeTable(crc32.Castagnoli)
	source := rand.New(rand.NewSource(1))
	for i := range 2000 {
		b := make([]byte, i%500)
		source.Read(b)
		if n := Sum(b); n != sumByBits(b) || n != crc32.Checksum(b, castagnoli) {
			t.Fatalf("Sum(%x) = %08X, want %08X", b, n, sumByBits(b))
		}
	}
	for i, b := range contents() {
		if n := Sum(b); n != sumByBits(b) {
			t.Errorf("Sum of content %d = %08X, want %08X", i, n, sumByBits(b))
		}
	}
}

// P2.1, S1: each row of the table is what four shifts of its number are.
func TestTable(t *testing.T) {
	for i, got := range shifted {
		want := uint32(i)
		for range 4 {
			want = want>>1 ^ want&1*0x82F63B78
		}
		if got != want {
			t.Errorf("row %d is %08X, want %08X", i, got, want)
		}
	}
}

// P2.1, S2.
func TestSeal(t *testing.T) {
	for _, c := range []struct{ b, want string }{
		{"", "\x00\x00\x00\x00"},
		{"123456789", "\xe3\x06\x92\x83123456789"},
		{"a", "\xc1\xd0\x43\x30a"},
		{"\x00", "\x52\x7d\x53\x51\x00"},
	} {
		if s := Seal([]byte(c.b)); string(s) != c.want {
			t.Errorf("Seal(%q) = %x, want %x", c.b, s, c.want)
		}
	}
	for i, b := range contents() {
		if s := Seal(b); !bytes.Equal(s, sealByBits(b)) {
			t.Errorf("Seal of content %d is wrong: %d bytes", i, len(s))
		}
	}
}

// P2.1, S2.
func TestOpen(t *testing.T) {
	for _, c := range []struct {
		b, want string
		e       api.Errno
	}{
		{"", "", api.ErrEnd},
		{"\x00", "", api.ErrEnd},
		{"\x00\x00", "", api.ErrEnd},
		{"\x00\x00\x00", "", api.ErrEnd},
		{"\xff\xff\xff", "", api.ErrEnd},
		{"\xe3\x06\x92", "", api.ErrEnd},
		{"\x00\x00\x00\x00", "", api.OK},
		{"\x00\x00\x00\x01", "", api.ErrSum},
		{"\x01\x00\x00\x00", "", api.ErrSum},
		{"\xff\xff\xff\xff", "", api.ErrSum},
		{"\xe3\x06\x92\x83", "", api.ErrSum},
		{"\xe3\x06\x92\x83123456789", "123456789", api.OK},
		{"\x83\x92\x06\xe3123456789", "", api.ErrSum},
		{"\x1c\xf9\x6d\x7c123456789", "", api.ErrSum},
		{"123456789\xe3\x06\x92\x83", "", api.ErrSum},
		{"\xe3\x06\x92\x8312345678", "", api.ErrSum},
		{"\xe3\x06\x92\x831234567890", "", api.ErrSum},
		{"\x00\x00\x00\x00\x00", "", api.ErrSum},
		{"\x52\x7d\x53\x51\x00", "\x00", api.OK},
	} {
		s, e := Open([]byte(c.b))
		if string(s) != c.want || e != c.e || e != api.OK && s != nil {
			t.Errorf("Open(%x) = %x (nil %v), %v; want %x, %v", c.b, s, s == nil, e, c.want, c.e)
		}
	}
	if s, e := Open(nil); s != nil || e != api.ErrEnd {
		t.Errorf("Open(nil) = %x, %v", s, e)
	}
}

// P2.1, S2: what lies in the spare capacity of b is not there to be opened.
func TestSpareCapacityIsNotOpened(t *testing.T) {
	whole := sealByBits([]byte("123456789"))
	for n := range 4 {
		if s, e := Open(whole[:n]); s != nil || e != api.ErrEnd {
			t.Errorf("Open of %d bytes = %x, %v", n, s, e)
		}
	}
	for n := 4; n < len(whole); n++ {
		mustSpoil(t, "the end is lacking", whole[:n])
	}
	if n := Sum(whole[4:5]); n != sumByBits([]byte("1")) {
		t.Errorf("Sum = %08X", n)
	}
	if s := Seal(whole[4:5]); !bytes.Equal(s, sealByBits([]byte("1"))) {
		t.Errorf("Seal = %x", s)
	}
}

// P2.2: what was sealed is opened unchanged, however often it was sealed.
func TestSealedIsOpened(t *testing.T) {
	for i, b := range contents() {
		if s, e := Open(Seal(b)); !bytes.Equal(s, b) || e != api.OK {
			t.Errorf("content %d: %d bytes, %v", i, len(s), e)
		}
	}
	b := []byte("123456789")
	for range 20 {
		b = Seal(b)
	}
	for range 20 {
		var e api.Errno
		if b, e = Open(b); e != api.OK {
			t.Fatal(e)
		}
	}
	if string(b) != "123456789" {
		t.Errorf("%q", b)
	}
}

// P2.2: what was opened is sealed as the same bytes.
func TestOpenedIsSealed(t *testing.T) {
	for i, b := range contents() {
		sealed := sealByBits(b)
		s, e := Open(sealed)
		if e != api.OK || !bytes.Equal(Seal(s), sealed) {
			t.Errorf("content %d: %v", i, e)
		}
	}
	source := rand.New(rand.NewSource(2))
	opened := 0
	for range 20000 {
		b := make([]byte, source.Intn(8))
		for i := range b {
			b[i] = byte(source.Intn(2))
		}
		s, e := Open(b)
		if e == api.OK {
			opened++
		}
		if e == api.OK && !bytes.Equal(Seal(s), b) {
			t.Fatalf("%x was opened, and sealed as %x", b, Seal(s))
		}
	}
	if opened < 100 {
		t.Errorf("too seldom opened: %d", opened)
	}
}

// P2.3: one byte after the checksum was changed, each of them to each other value.
func TestOneChangedByte(t *testing.T) {
	for _, n := range []int{1, 2, 3, 4, 5, 9, 64, 257} {
		sealed := Seal(fill(n))
		for at := 4; at < len(sealed); at++ {
			for change := 1; change < 256; change++ {
				sealed[at] ^= byte(change)
				mustSpoil(t, "one changed byte", sealed)
				sealed[at] ^= byte(change)
			}
		}
	}
	sealed := Seal(fill(api.MaxBytes))
	for _, at := range []int{4, 5, 255, 256, 32768, len(sealed) - 2, len(sealed) - 1} {
		sealed[at] ^= 0x10
		mustSpoil(t, "one changed byte of many", sealed)
		sealed[at] ^= 0x10
	}
}

// changes is masks of four bytes of which at least one bit is set: all of one and of two bits, whole bytes, and some at random.
func changes() []uint32 {
	l := []uint32{0xFFFFFFFF, 0xFF00FF00, 0x00FF00FF, 0x82F63B78, 0x1EDC6F41, 0xFF0000FF, 0x01010101, 0x80808080}
	for i := range 32 {
		for j := range i + 1 {
			l = append(l, 1<<i|1<<j)
		}
	}
	source := rand.New(rand.NewSource(3))
	for range 200 {
		l = append(l, max(1, source.Uint32()))
	}
	return l
}

// flip changes up to four bytes from an offset on by a mask, and tells whether all that it changes are there.
func flip(b []byte, at int, mask uint32) bool {
	if at+4-bits.TrailingZeros32(mask)/8 > len(b) {
		return false
	}
	for i := at; i < min(at+4, len(b)); i++ {
		b[i] ^= byte(mask >> (8 * (3 - (i - at))))
	}
	return true
}

// P2.3: several bytes within four consecutive ones were changed, at the beginning, at the end and between.
func TestChangedBytesWithinFour(t *testing.T) {
	masks := changes()
	for _, n := range []int{1, 2, 3, 4, 5, 6, 7, 8, 20, 65} {
		sealed := Seal(fill(n))
		kept := bytes.Clone(sealed)
		tried := 0
		for at := 4; at < len(sealed); at++ {
			for _, mask := range masks {
				if flip(sealed, at, mask) {
					mustSpoil(t, "changed bytes", sealed)
					flip(sealed, at, mask)
					tried++
				}
			}
		}
		if !bytes.Equal(sealed, kept) || tried < 30 {
			t.Fatalf("%d changes of %d bytes, and %x left of %x", tried, n, sealed, kept)
		}
	}
	sealed := Seal(fill(api.MaxBytes))
	for _, at := range []int{4, 32768, len(sealed) - 4} {
		for _, mask := range masks[:20] {
			flip(sealed, at, mask)
			mustSpoil(t, "changed bytes of many", sealed)
			flip(sealed, at, mask)
		}
	}
}

// rank is how many of the numbers are independent under xor.
func rank(l []uint32) int {
	var leading [33]uint32
	n := 0
	for _, x := range l {
		for x != 0 && leading[bits.Len32(x)] != 0 {
			x ^= leading[bits.Len32(x)]
		}
		if x != 0 {
			leading[bits.Len32(x)] = x
			n++
		}
	}
	return n
}

// P2.3: what single bits of four consecutive bytes change in the checksum is independent. As changes add up by xor, none of the 2^32 - 1 changes of those bytes leaves the checksum as it was.
func TestNoChangeWithinFourIsLost(t *testing.T) {
	for _, n := range []int{4, 5, 9, 64, 1000} {
		b := fill(n)
		was := Sum(b)
		for _, at := range []int{0, 1, n / 2, n - 5, n - 4} {
			if at < 0 || at+4 > n {
				continue
			}
			var effects []uint32
			for bit := range 32 {
				flip(b, at, 1<<bit)
				effects = append(effects, Sum(b)^was)
				flip(b, at, 1<<bit)
			}
			if r := rank(effects); r != 32 {
				t.Errorf("%d bytes, at %d: rank %d", n, at, r)
			}
		}
	}
}

// P2.3: the checksum was changed.
func TestChangedChecksum(t *testing.T) {
	for _, b := range contents() {
		if len(b) > 100 {
			continue
		}
		sealed := Seal(b)
		for at := range 4 {
			for change := 1; change < 256; change++ {
				sealed[at] ^= byte(change)
				mustSpoil(t, "a changed byte of the checksum", sealed)
				sealed[at] ^= byte(change)
			}
		}
	}
	for _, b := range [][]byte{nil, []byte("123456789"), fill(64)} {
		sealed := Seal(b)
		for _, mask := range changes() {
			flip(sealed, 0, mask)
			mustSpoil(t, "a changed checksum", sealed)
			flip(sealed, 0, mask)
		}
	}
}

// wipe overwrites b and its spare capacity.
func wipe(b []byte) {
	b = b[:cap(b)]
	for i := range b {
		b[i] = 0xEE
	}
}

// P3: what was passed is left as it was, its spare capacity too, and a result shares no memory with it.
func TestNothingIsShared(t *testing.T) {
	whole := []byte("xx123456789yyyyyyyy")
	b := whole[2:11]
	Sum(b)
	sealed := Seal(b)
	wipe(Seal(b))
	if string(whole) != "xx123456789yyyyyyyy" || string(sealed) != "\xe3\x06\x92\x83123456789" {
		t.Errorf("%q %x", whole, sealed)
	}
	wipe(whole)
	if string(sealed) != "\xe3\x06\x92\x83123456789" {
		t.Errorf("%x", sealed)
	}
	around := append([]byte("zz"), append(sealed, "spare"...)...)
	kept := bytes.Clone(around)
	first, e := Open(around[2:15])
	second, _ := Open(around[2:15])
	wipe(second)
	if e != api.OK || string(first) != "123456789" || !bytes.Equal(around, kept) {
		t.Errorf("%v %q %q", e, first, around)
	}
	wipe(around)
	if string(first) != "123456789" {
		t.Errorf("%q", first)
	}
}

// P3: what yields an error is left as it was, too.
func TestRefusedIsNotChanged(t *testing.T) {
	for _, s := range []string{"", "\x01", "\x01\x02\x03", "\x01\x02\x03\x04", "\x01\x02\x03\x04abc"} {
		b := append([]byte(s), "spare"...)
		if r, e := Open(b[:len(s)]); r != nil || e == api.OK {
			t.Errorf("Open(%x) = %x, %v", s, r, e)
		}
		if string(b) != s+"spare" {
			t.Errorf("%x was changed to %x", s+"spare", b)
		}
	}
}

// P3: a result hangs on the arguments alone, not on the calls before; an empty result has no spare memory that another one has.
func TestCallsAreIndependent(t *testing.T) {
	wipe(Seal(nil))
	opened, _ := Open(Seal(nil))
	wipe(opened)
	Open([]byte("\x01\x02\x03\x04abc"))
	if s := Seal(nil); string(s) != "\x00\x00\x00\x00" {
		t.Errorf("%x", s)
	}
	if s, e := Open([]byte{0, 0, 0, 0}); len(s) != 0 || e != api.OK {
		t.Errorf("%x %v", s, e)
	}
	if n := Sum([]byte("123456789")); n != 0xE3069283 {
		t.Errorf("%08X", n)
	}
}
