package code

import (
	"bytes"
	"encoding/binary"
	"math"
	"math/rand"
	"testing"

	"covenant/api"
)

// origin is bytes that are read as the document tells it, with a panic for the first error.
type origin struct {
	b     []byte
	wrong bool // something makes a module that is not valid
}

func (o *origin) take(n int) []byte {
	if len(o.b) < n {
		panic(api.ErrEnd)
	}
	part := o.b[:n]
	o.b = o.b[n:]
	return part
}

func (o *origin) num() int64 { return int64(binary.BigEndian.Uint64(o.take(8))) }

// within is an integer that a valid module has only from one number to another.
func (o *origin) within(from, to int64) int {
	n := o.num()
	if n < from || n > to {
		o.wrong = true
	}
	return int(n)
}

func (o *origin) number(most int64) int64 {
	n := o.num()
	if n < 0 || n > most {
		panic(api.ErrCode)
	}
	return n
}

func (o *origin) count(most uint32) int {
	n := binary.BigEndian.Uint32(o.take(4))
	if n > most {
		panic(api.ErrTooMany)
	}
	return int(n)
}

func (o *origin) text(most int) []byte {
	s := o.take(o.count(65536))
	if len(s) > most {
		o.wrong = true
	}
	return s
}

func (o *origin) module() api.Module {
	var m api.Module
	for range o.number(64) {
		c := api.Code{Name: string(o.text(16))}
		params := o.number(16)
		for range params {
			c.Params = append(c.Params, api.Type(o.within(1, 3)))
		}
		c.Result = api.Type(o.within(0, 3))
		c.Slots = o.within(params, 256)
		for range o.number(16384) {
			op := api.Op(o.within(1, 18))
			c.Instrs = append(c.Instrs, api.Instr{Op: op, A: o.num()})
		}
		m.Codes = append(m.Codes, c)
	}
	for range o.count(1024) {
		m.Texts = append(m.Texts, o.text(64))
	}
	if o.wrong || len(o.b) > 0 {
		panic(api.ErrCode)
	}
	return m
}

// wantGet is what Get should return.
func wantGet(b []byte) (m api.Module, e api.Errno) {
	defer func() {
		if r := recover(); r != nil {
			m, e = api.Module{}, r.(api.Errno)
		}
	}()
	return (&origin{b: b}).module(), api.OK
}

// edgeNumbers are integers at the edges of what parts may be.
var edgeNumbers = []int64{-1, 0, 1, 2, 3, 4, 15, 16, 17, 18, 19, 63, 64, 65, 255, 256, 257, 1023, 1024, 1025, 16384, 16385, 65536, 65537, 1 << 31, 1 << 32, 1<<32 + 1, math.MaxInt64, math.MinInt64}

func randomNumber(source *rand.Rand) int64 {
	switch source.Intn(3) {
	case 0:
		return edgeNumbers[source.Intn(len(edgeNumbers))]
	case 1:
		return int64(source.Intn(20))
	}
	return int64(source.Uint64())
}

func randomText(source *rand.Rand, most int) []byte {
	s := make([]byte, source.Intn(most+1))
	source.Read(s)
	return s
}

func randomCode(source *rand.Rand) api.Code {
	c := api.Code{Name: string(randomText(source, 16)), Result: api.Type(source.Intn(4))}
	for range source.Intn(17) {
		c.Params = append(c.Params, api.Type(1+source.Intn(3)))
	}
	c.Slots = len(c.Params) + source.Intn(257-len(c.Params))
	for range source.Intn(12) {
		c.Instrs = append(c.Instrs, api.Instr{Op: api.Op(1 + source.Intn(18)), A: randomNumber(source)})
	}
	return c
}

// randomModule is a valid module.
func randomModule(source *rand.Rand) api.Module {
	var m api.Module
	for range source.Intn(4) {
		m.Codes = append(m.Codes, randomCode(source))
	}
	for range source.Intn(4) {
		m.Texts = append(m.Texts, randomText(source, 64))
	}
	return m
}

// P11.2: the bytes of a valid module are read back as the module, and what was read has the same bytes.
func TestRoundTrip(t *testing.T) {
	source := rand.New(rand.NewSource(1))
	for range 20000 {
		m := randomModule(source)
		b, e := Put(m)
		if !Right(m) || e != api.OK || !bytes.Equal(b, written(m)) {
			t.Fatalf("%s: %x, %v", show(m), b, e)
		}
		got, e := Get(b)
		if e != api.OK || !same(got, m) {
			t.Fatalf("%s is read back as %s, %v", show(m), show(got), e)
		}
		if again, e := Put(got); e != api.OK || !bytes.Equal(again, b) {
			t.Fatalf("%s has other bytes after it was read back: %x, %v", show(m), again, e)
		}
	}
}

// spoil changes bytes in one place or a few.
func spoil(source *rand.Rand, b []byte) []byte {
	for range 1 + source.Intn(2) {
		at := 0
		if len(b) > 0 {
			at = source.Intn(len(b))
		}
		switch source.Intn(6) {
		case 0:
			b = b[:at]
		case 1:
			b = join(b, randomText(source, 9))
		case 2:
			b = join(b[:at], b[min(len(b), at+1+source.Intn(9)):])
		case 3:
			b = join(b[:at], randomText(source, 9), b[at:])
		case 4:
			if at < len(b) {
				b[at] = byte(source.Intn(24)) - 2
			}
		default:
			b = join(b[:at], num(randomNumber(source)), b[min(len(b), at+8):])
		}
	}
	return b
}

// mustReadAs fails unless Get returns what the document tells; it returns the error.
func mustReadAs(t *testing.T, b []byte) api.Errno {
	t.Helper()
	kept := bytes.Clone(b)
	m, e := Get(b)
	want, wantE := wantGet(kept)
	if e != wantE || !same(m, want) || e != api.OK && !none(m) {
		t.Fatalf("%x: %s, %v; want %s, %v", kept, show(m), e, show(want), wantE)
	}
	if !bytes.Equal(b, kept) {
		t.Fatalf("%x was changed to %x", kept, b)
	}
	if e == api.OK {
		if again, e := Put(m); !Right(m) || e != api.OK || !bytes.Equal(again, kept) {
			t.Fatalf("%x is written as %x, %v", kept, again, e)
		}
	}
	return e
}

// P11.1, B2, and P11.2: bytes of modules that were spoiled.
func TestSpoiledBytes(t *testing.T) {
	source := rand.New(rand.NewSource(2))
	found := map[api.Errno]int{}
	for range 200000 {
		found[mustReadAs(t, spoil(source, written(randomModule(source))))]++
	}
	for _, e := range []api.Errno{api.OK, api.ErrEnd, api.ErrTooMany, api.ErrCode} {
		if found[e] < 1000 {
			t.Errorf("%v was seldom found: %v", e, found)
		}
	}
}

// P11.1, B2, and P11.2: each byte of a module, replaced by each other one.
func TestEachByteReplaced(t *testing.T) {
	for _, m := range []api.Module{{}, plain(), one(typed(16))} {
		b := written(m)
		for at, kept := range b {
			for c := range 256 {
				b[at] = byte(c)
				mustReadAs(t, b)
			}
			b[at] = kept
		}
	}
}

// P11.1, B2: each integer of a module, replaced by each edge.
func TestEachNumberReplaced(t *testing.T) {
	for _, m := range []api.Module{{}, plain(), one(typed(16))} {
		b := written(m)
		for at := 0; at+8 <= len(b); at++ {
			for _, n := range edgeNumbers {
				mustReadAs(t, join(b[:at], num(n), b[at+8:]))
			}
		}
	}
}

// P1 and P11.1, B2: bytes of no module.
func TestAnyBytes(t *testing.T) {
	source := rand.New(rand.NewSource(3))
	for range 50000 {
		b := randomText(source, 200)
		// Mostly 0, so that numbers are often such as are permitted.
		for i := range b {
			if source.Intn(8) > 0 {
				b[i] = 0
			} else if source.Intn(3) > 0 {
				b[i] %= 4
			}
		}
		mustReadAs(t, b)
	}
}

// wantRight is whether a module is valid, by the document's words, one after another.
func wantRight(m api.Module) bool {
	right := len(m.Codes) <= 64 && len(m.Texts) <= 1024
	for _, s := range m.Texts {
		right = right && len(s) <= 64
	}
	for _, c := range m.Codes {
		right = right && len(c.Name) <= 16 && len(c.Params) <= 16 && len(c.Instrs) <= 16384
		for _, p := range c.Params {
			right = right && (p == api.TypeInt || p == api.TypeBool || p == api.TypeBytes)
		}
		right = right && (c.Result == api.TypeInt || c.Result == api.TypeBool || c.Result == api.TypeBytes || c.Result == api.TypeNone)
		right = right && 0 <= c.Slots && c.Slots <= 256 && c.Slots >= len(c.Params)
		for _, i := range c.Instrs {
			right = right && api.OpGas <= i.Op && i.Op <= api.OpReturn
		}
	}
	return right
}

// change makes one part of a module other than it is; most of what comes of it is not valid.
func change(source *rand.Rand, m *api.Module) {
	if len(m.Codes) == 0 {
		m.Codes = append(m.Codes, randomCode(source))
	}
	c := &m.Codes[source.Intn(len(m.Codes))]
	n := int(int32(randomNumber(source)))
	switch source.Intn(8) {
	case 0:
		c.Name = string(randomText(source, 18))
	case 1:
		c.Result = api.Type(n)
	case 2:
		c.Slots = n
	case 3:
		c.Params = append(c.Params, api.Type(n))
	case 4:
		c.Instrs = append(c.Instrs, api.Instr{Op: api.Op(n)})
	case 5:
		m.Texts = append(m.Texts, randomText(source, 70))
	case 6:
		c.Slots = source.Intn(20)
	default:
		*c = randomCode(source)
	}
}

// P1, and P11.1, B1: modules of all kinds.
func TestAnyModules(t *testing.T) {
	source := rand.New(rand.NewSource(4))
	found := map[bool]int{}
	for range 50000 {
		m := randomModule(source)
		for range source.Intn(3) {
			change(source, &m)
		}
		want := wantRight(m)
		found[want]++
		if Right(m) != want {
			t.Fatalf("%s: %v", show(m), !want)
		}
		b, e := Put(m)
		if want && (e != api.OK || !bytes.Equal(b, written(m))) || !want && (e != api.ErrCode || b != nil) {
			t.Fatalf("%s: %x, %v", show(m), b, e)
		}
	}
	if found[true] < 1000 || found[false] < 1000 {
		t.Errorf("the modules are too much alike: %v", found)
	}
}

// P11.2: different modules have different bytes, and equal ones the same.
func TestChangedModules(t *testing.T) {
	source := rand.New(rand.NewSource(5))
	for range 50000 {
		m := randomModule(source)
		b, e := Put(m)
		n, f := Get(b)
		if e != api.OK || f != api.OK {
			t.Fatal(e, f)
		}
		change(source, &n)
		other, e := Put(n)
		if e == api.OK && bytes.Equal(b, other) != same(m, n) {
			t.Fatalf("%s and %s: %x and %x", show(m), show(n), b, other)
		}
	}
}
