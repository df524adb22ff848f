// Package octet is numbers as bytes.
package octet

import (
	"paternoster/api"
)

const (
	maxSize  = 8 // a uint64 has no more bytes
	headSize = 2
	maxRow   = 1<<(8*headSize) - 1 // a longer row's length would not fit its head
)

// Put is the bytes of numbers, each in so many, the lowest one first; nothing of a size that isn't 1 to 8.
func Put(size int, l ...uint64) []byte {
	if !fits(size) {
		return nil
	}
	b := make([]byte, 0, size*len(l))
	for _, n := range l {
		b = put(b, size, n)
	}
	return b
}

// Get is the numbers of bytes, each of so many, the lowest one first.
func Get(size int, b []byte) ([]uint64, api.Errno) {
	if !fits(size) {
		return nil, api.ErrArg
	}
	if len(b)%size != 0 {
		return nil, api.ErrShort
	}
	l := make([]uint64, 0, len(b)/size)
	for len(b) > 0 {
		l = append(l, get(size, b))
		b = b[size:]
	}
	return l, api.OK
}

// Join is rows of bytes, one behind the other, each with how many there are ahead, and of each the first 65535 at most.
func Join(rows ...[]byte) []byte {
	var b []byte
	for _, r := range rows {
		r = r[:min(len(r), maxRow)]
		b = put(b, headSize, uint64(len(r)))
		b = append(b, r...)
	}
	return b
}

// Part is the rows of bytes that Join told.
func Part(b []byte) ([][]byte, api.Errno) {
	rest := append([]byte(nil), b...)
	var rows [][]byte
	for len(rest) > 0 {
		if len(rest) < headSize {
			return nil, api.ErrShort
		}
		end := headSize + int(get(headSize, rest))
		if len(rest) < end {
			return nil, api.ErrShort
		}
		// No room behind a row: who appends to it must not write over the next one.
		rows = append(rows, rest[headSize:end:end])
		rest = rest[end:]
	}
	return rows, api.OK
}

// fits tells whether a number may have so many bytes.
func fits(size int) bool { return 1 <= size && size <= maxSize }

// put is bytes with a number's lowest ones behind.
func put(b []byte, size int, n uint64) []byte {
	for i := range size {
		b = append(b, byte(n>>(8*i)))
	}
	return b
}

// get is the number of the first bytes of some.
func get(size int, b []byte) uint64 {
	var n uint64
	for i := range size {
		n |= uint64(b[i]) << (8 * i)
	}
	return n
}
