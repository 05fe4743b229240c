package code

import (
	"covenant/api"
	"covenant/wire"
)

// place is how far bytes have been read, and the first error that there was.
type place struct {
	b  []byte
	at int
	e  api.Errno
}

// reader returns what reads the next part at a place, by wire's function for its kind. After the first error it reads nothing any more, and each part is zero.
func reader[T any](p *place, read func(b []byte, at int) (T, int, api.Errno)) func() T {
	return func() T {
		var part T
		if p.e == api.OK {
			part, p.at, p.e = read(p.b, p.at)
		}
		return part
	}
}

// elements reads a number of elements, which may not be greater than most, and each of them.
func elements[T any](p *place, most int64, element func() T) []T {
	n := reader(p, wire.Num)()
	if p.e == api.OK && (n < 0 || n > most) {
		p.e = api.ErrCode
	}
	var l []T
	// Memory is made only for elements that follow, as a great number may stand ahead of nothing.
	for i := int64(0); i < n && p.e == api.OK; i++ {
		l = append(l, element())
	}
	return l
}

// fitting returns n as a T. Where an int has only 32 bits, an n that it cannot hold becomes -1, which no valid module has there either.
func fitting[T ~int](n int64) T {
	if int64(T(n)) != n {
		return -1
	}
	return T(n)
}

// codeReader returns what reads the next Code at a place.
func codeReader(p *place) func() api.Code {
	num, text := reader(p, wire.Num), reader(p, wire.Bytes)
	kind := func() api.Type { return fitting[api.Type](num()) }
	instr := func() api.Instr {
		op := fitting[api.Op](num())
		return api.Instr{Op: op, A: num()}
	}
	return func() api.Code {
		var c api.Code
		c.Name = string(text())
		c.Params = elements(p, maxParams, kind)
		c.Result = kind()
		c.Slots = fitting[int](num())
		c.Instrs = elements(p, api.MaxInstrs, instr)
		return c
	}
}

// Get returns the module that has these bytes.
func Get(b []byte) (api.Module, api.Errno) {
	p := &place{b: b}
	var m api.Module
	m.Codes = elements(p, api.MaxCodes, codeReader(p))
	m.Texts = reader(p, wire.Row)()
	if p.e != api.OK {
		return api.Module{}, p.e
	}
	if p.at != len(b) || !Right(m) {
		return api.Module{}, api.ErrCode
	}
	return m, api.OK
}
