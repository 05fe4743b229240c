// Package wire is layer 1: see shared/doc/01-wire.md. It writes integers, booleans, byte strings and rows as bytes, and reads them back.
package wire

import (
	"bytes"

	"covenant/api"
)

// How many bytes an integer has, a boolean, and the length ahead of a byte string or a row.
const (
	numSize   = 8
	boolSize  = 1
	countSize = 4
)

// integer is what stands in bytes as it is. A length is unsigned, so that its highest bit can't make it look small.
type integer interface {
	int64 | uint32
}

// appendInt appends the lowest size bytes of n, the most significant first.
func appendInt[T integer](b []byte, n T, size int) []byte {
	for i := size - 1; i >= 0; i-- {
		b = append(b, byte(n>>(8*i)))
	}
	return b
}

// readInt reads an integer of size bytes at an offset, and returns the offset after it.
func readInt[T integer](b []byte, at int, size int) (T, int, api.Errno) {
	if e := room(b, at, size); e != api.OK {
		return 0, 0, e
	}
	var n T
	for _, c := range b[at : at+size] {
		n = n<<8 | T(c)
	}
	return n, at + size, api.OK
}

// room returns the error of an offset at which no size bytes stand. The offset comes first: one that may not be is no early end.
func room(b []byte, at int, size int) api.Errno {
	if at < 0 || at > len(b) {
		return api.ErrArg
	}
	if len(b)-at < size {
		return api.ErrEnd
	}
	return api.OK
}

// readCount reads a length, which may not be greater than most.
func readCount(b []byte, at int, most uint32) (int, int, api.Errno) {
	n, next, e := readInt[uint32](b, at, countSize)
	if e != api.OK {
		return 0, 0, e
	}
	if n > most {
		return 0, 0, api.ErrTooMany
	}
	return int(n), next, api.OK
}

// appendBytes appends the bytes of a byte string that is known to be short enough.
func appendBytes(b []byte, s []byte) []byte {
	return append(appendInt(b, uint32(len(s)), countSize), s...)
}

// PutNum returns the bytes of n.
func PutNum(n int64) []byte {
	return appendInt(make([]byte, 0, numSize), n, numSize)
}

// Num reads an integer at an offset, and returns the offset after it.
func Num(b []byte, at int) (int64, int, api.Errno) {
	return readInt[int64](b, at, numSize)
}

// PutBool returns the byte of a boolean.
func PutBool(is bool) []byte {
	if is {
		return []byte{1}
	}
	return []byte{0}
}

// Bool reads a boolean at an offset, and returns the offset after it.
func Bool(b []byte, at int) (bool, int, api.Errno) {
	if e := room(b, at, boolSize); e != api.OK {
		return false, 0, e
	}
	// Only one byte may stand for true, or else what was read would not be written back as it was.
	if b[at] > 1 {
		return false, 0, api.ErrBool
	}
	return b[at] == 1, at + boolSize, api.OK
}

// PutBytes returns the bytes of a byte string.
func PutBytes(s []byte) ([]byte, api.Errno) {
	if len(s) > api.MaxBytes {
		return nil, api.ErrTooMany
	}
	return appendBytes(make([]byte, 0, countSize+len(s)), s), api.OK
}

// Bytes reads a byte string at an offset, and returns the offset after it.
func Bytes(b []byte, at int) ([]byte, int, api.Errno) {
	n, next, e := readCount(b, at, api.MaxBytes)
	if e != api.OK {
		return nil, 0, e
	}
	if e = room(b, next, n); e != api.OK {
		return nil, 0, e
	}
	return bytes.Clone(b[next : next+n]), next + n, api.OK
}

// PutRow returns the bytes of a row.
func PutRow(l [][]byte) ([]byte, api.Errno) {
	if len(l) > api.MaxRow {
		return nil, api.ErrTooMany
	}
	size := countSize
	for _, s := range l {
		if len(s) > api.MaxBytes {
			return nil, api.ErrTooMany
		}
		size += countSize + len(s)
	}
	b := appendInt(make([]byte, 0, size), uint32(len(l)), countSize)
	for _, s := range l {
		b = appendBytes(b, s)
	}
	return b, api.OK
}

// Row reads a row at an offset, and returns the offset after it.
func Row(b []byte, at int) ([][]byte, int, api.Errno) {
	n, next, e := readCount(b, at, api.MaxRow)
	if e != api.OK {
		return nil, 0, e
	}
	l := make([][]byte, n)
	for i := range l {
		l[i], next, e = Bytes(b, next)
		if e != api.OK {
			return nil, 0, e
		}
	}
	return l, next, api.OK
}
