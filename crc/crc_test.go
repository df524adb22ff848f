package crc_test

import (
	"bytes"
	"hash/crc32"
	"math/bits"
	"testing"

	"paternoster/crc"
	"paternoster/octet"
)

// count is bytes that differ from their neighbours.
func count(n int) []byte {
	b := make([]byte, n)
	for i := range b {
		b[i] = byte(i*7 + i/256 + 1)
	}
	return b
}

// bitByBit is the sum just as the document's words tell it.
func bitByBit(b []byte) uint32 {
	sum := uint64(1<<32 - 1)
	for _, x := range b {
		sum ^= uint64(x)
		for range 8 {
			odd := sum%2 == 1
			sum /= 2
			if odd {
				sum ^= 3988292384
			}
		}
	}
	return ^uint32(sum)
}

// flipped is a copy of bytes in which the ones of pattern, from bit at on (a byte's lowest one first), are turned.
func flipped(b []byte, at int, pattern uint32) []byte {
	c := bytes.Clone(b)
	for i := range 32 {
		if pattern>>i&1 == 1 {
			c[(at+i)/8] ^= 1 << ((at + i) % 8)
		}
	}
	return c
}

// eachBurst goes through changes of up to 32 bits on end, of each length and at each place of so many bytes: all that are short, and of the longer ones some whose inner bits are mixed.
func eachBurst(size int, f func(at int, pattern uint32)) {
	mixed := uint32(1)
	for long := 1; long <= 32; long++ {
		ends := uint32(1) | 1<<(long-1)
		inner := uint32(0)
		if long > 2 {
			inner = 1<<(long-2) - 1
		}
		for at := 0; at+long <= 8*size; at++ {
			if long <= 8 {
				for in := uint32(0); in <= inner; in++ {
					f(at, ends|in<<1)
				}
				continue
			}
			f(at, ends)
			f(at, ends|inner<<1)
			for range 8 {
				mixed = mixed*1664525 + 1013904223
				f(at, ends|bits.Reverse32(mixed)&inner<<1)
			}
		}
	}
}

// P2.1

func TestOf(t *testing.T) {
	for _, c := range []struct {
		b    string
		want uint32
	}{
		{"", 0},
		{"\x00", 3523407757},
		{"\xff", 4278190080},
		{"\x00\x00\x00\x00", 558161692},
		{"\xff\xff\xff\xff", 4294967295},
		{"a", 3904355907},
		{"abc", 891568578},
		{"123456789", 3421780262},
		{"The quick brown fox jumps over the lazy dog", 1095738169},
	} {
		if n := crc.Of([]byte(c.b)); n != c.want {
			t.Errorf("Of(%q) = %d, want %d", c.b, n, c.want)
		}
	}
}

func TestOfNothing(t *testing.T) {
	for _, rows := range [][][]byte{nil, {}, {nil}, {{}}, {nil, {}, nil}} {
		if n := crc.Of(rows...); n != 0 {
			t.Errorf("Of(%v) = %d", rows, n)
		}
	}
	if n := crc.Of(); n != 0 {
		t.Errorf("Of() = %d", n)
	}
}

func TestOfEachByte(t *testing.T) {
	// Each byte alone, and each one ahead of, and behind, another one: both halves of a byte, in each state.
	for x := range 256 {
		for _, b := range [][]byte{{byte(x)}, {byte(x), 0}, {0, byte(x)}, {byte(x), 255}, {165, byte(x), 90}} {
			if n, want := crc.Of(b), bitByBit(b); n != want {
				t.Errorf("Of(%v) = %d, want %d", b, n, want)
			}
		}
	}
}

func TestOfEachLength(t *testing.T) {
	for n := range 1000 {
		b := count(n)
		want := bitByBit(b)
		if sum := crc.Of(b); sum != want || sum != crc32.ChecksumIEEE(b) {
			t.Errorf("Of %d bytes = %d, want %d", n, sum, want)
		}
	}
	long := count(1 << 20)
	if sum := crc.Of(long); sum != crc32.ChecksumIEEE(long) {
		t.Errorf("Of 2^20 bytes = %d", sum)
	}
}

func TestOfRowsInOrder(t *testing.T) {
	for _, c := range []struct {
		rows [][]byte
		want string
	}{
		{[][]byte{[]byte("1234"), nil, []byte("56789")}, "123456789"},
		{[][]byte{[]byte("56789"), []byte("1234")}, "567891234"},
		{[][]byte{[]byte("a"), []byte("a")}, "aa"},
		{[][]byte{nil, []byte("abc"), {}}, "abc"},
	} {
		if n := crc.Of(c.rows...); n != bitByBit([]byte(c.want)) {
			t.Errorf("Of(%q) = %d, not that of %q", c.rows, n, c.want)
		}
	}
	if crc.Of([]byte("ab"), []byte("c")) == crc.Of([]byte("c"), []byte("ab")) {
		t.Error("rows in another order have the same sum")
	}
}

// P2.2

func TestSeal(t *testing.T) {
	for _, c := range []struct{ b, want string }{
		{"", "\x00\x00\x00\x00"},
		{"123456789", "123456789\x26\x39\xf4\xcb"},
		{"\xff\xff\xff\xff", "\xff\xff\xff\xff\xff\xff\xff\xff"},
		{"abc", "abc\xc2\x41\x24\x35"},
	} {
		if b := crc.Seal([]byte(c.b)); string(b) != c.want {
			t.Errorf("Seal(%q) = %q, want %q", c.b, b, c.want)
		}
	}
	if b := crc.Seal(nil); string(b) != "\x00\x00\x00\x00" {
		t.Errorf("Seal(nil) = %q", b)
	}
}

func TestSealIsSumBehind(t *testing.T) {
	for n := range 300 {
		b := count(n)
		want := append(count(n), octet.Put(4, uint64(bitByBit(b)))...)
		if s := crc.Seal(b); !bytes.Equal(s, want) {
			t.Errorf("Seal of %d bytes = %v, want %v", n, s, want)
		}
	}
}

func TestOpen(t *testing.T) {
	for n := range 300 {
		b, is := crc.Open(crc.Seal(count(n)))
		if !is || !bytes.Equal(b, count(n)) {
			t.Errorf("Open of %d sealed bytes = %v, %v", n, b, is)
		}
	}
	// What is sealed twice is opened twice.
	b, is := crc.Open(crc.Seal(crc.Seal([]byte("a"))))
	if !is || !bytes.Equal(b, crc.Seal([]byte("a"))) {
		t.Errorf("Open of what was sealed twice = %v, %v", b, is)
	}
}

func TestOpenOfTooFewBytes(t *testing.T) {
	for n := range 4 {
		for _, x := range []byte{0, 1, 255} {
			if b, is := crc.Open(bytes.Repeat([]byte{x}, n)); is || len(b) != 0 {
				t.Errorf("Open of %d times %d = %v, %v", n, x, b, is)
			}
		}
	}
	if b, is := crc.Open(nil); is || len(b) != 0 {
		t.Errorf("Open(nil) = %v, %v", b, is)
	}
	// The bytes behind the end would make a sum.
	if b, is := crc.Open(make([]byte, 4)[:3]); is || len(b) != 0 {
		t.Errorf("Open of three bytes with more behind = %v, %v", b, is)
	}
}

func TestOpenOfJustFourBytes(t *testing.T) {
	if b, is := crc.Open([]byte{0, 0, 0, 0}); !is || len(b) != 0 {
		t.Errorf("Open of four times 0 = %v, %v", b, is)
	}
	for at := range 32 {
		if b, is := crc.Open(flipped(make([]byte, 4), at, 1)); is || len(b) != 0 {
			t.Errorf("Open of a 1 at bit %d = %v, %v", at, b, is)
		}
	}
	if b, is := crc.Open([]byte{255, 255, 255, 255}); is || len(b) != 0 {
		t.Errorf("Open of four times 255 = %v, %v", b, is)
	}
}

func TestOpenOfOneBitChanged(t *testing.T) {
	for _, n := range []int{1, 2, 9, 64} {
		s := crc.Seal(count(n))
		for at := range 8 * len(s) {
			if b, is := crc.Open(flipped(s, at, 1)); is || len(b) != 0 {
				t.Errorf("%d bytes: Open with bit %d turned = %v, %v", n, at, b, is)
			}
		}
	}
}

func TestOpenOfUpTo32BitsChanged(t *testing.T) {
	s := crc.Seal(count(9))
	eachBurst(len(s), func(at int, pattern uint32) {
		if b, is := crc.Open(flipped(s, at, pattern)); is || len(b) != 0 {
			t.Errorf("Open with bits %b from %d on turned = %v, %v", pattern, at, b, is)
		}
	})
}

func TestOpenOfAnotherLength(t *testing.T) {
	s := crc.Seal([]byte("123456789"))
	for n := range len(s) {
		if b, is := crc.Open(s[:n]); is || len(b) != 0 {
			t.Errorf("Open of the first %d bytes = %q, %v", n, b, is)
		}
	}
	for _, x := range []byte{0, 1, 255} {
		if b, is := crc.Open(append(bytes.Clone(s), x)); is || len(b) != 0 {
			t.Errorf("Open with %d behind = %q, %v", x, b, is)
		}
		if b, is := crc.Open(append([]byte{x}, s...)); is || len(b) != 0 {
			t.Errorf("Open with %d ahead = %q, %v", x, b, is)
		}
	}
}

func TestOpenOfASumInAnotherOrder(t *testing.T) {
	for _, c := range []string{
		"123456789\xcb\xf4\x39\x26", // its highest byte first
		"\x26\x39\xf4\xcb123456789", // ahead
		"123456789\xd9\xc6\x0b\x34", // not turned
	} {
		if b, is := crc.Open([]byte(c)); is || len(b) != 0 {
			t.Errorf("Open(%q) = %q, %v", c, b, is)
		}
	}
}

func TestSealIsNewMemory(t *testing.T) {
	room := count(20)
	b := room[:8] // there is room behind for a sum
	s := crc.Seal(b)
	if !bytes.Equal(room, count(20)) {
		t.Errorf("Seal changed %v", room)
	}
	kept := bytes.Clone(s)
	clear(room)
	if !bytes.Equal(s, kept) {
		t.Errorf("what was sealed changed with what was handed in: %v", s)
	}
	copy(room, count(20))
	clear(s)
	if !bytes.Equal(room, count(20)) {
		t.Errorf("what was handed in changed with what was sealed: %v", room)
	}
}

func TestOpenIsNewMemory(t *testing.T) {
	s := crc.Seal(count(8))
	kept := bytes.Clone(s)
	b, _ := crc.Open(s)
	if !bytes.Equal(s, kept) {
		t.Errorf("Open changed %v", s)
	}
	clear(s)
	if !bytes.Equal(b, count(8)) {
		t.Errorf("what was opened changed with what was handed in: %v", b)
	}
	copy(s, kept)
	clear(append(b, 1, 2, 3, 4))
	clear(b)
	if !bytes.Equal(s, kept) {
		t.Errorf("what was handed in changed with what was opened: %v", s)
	}
	// Nor may what is appended to nothing that was opened come into what was handed in.
	s = crc.Seal(nil)
	b, _ = crc.Open(s)
	_ = append(b, 9)
	if !bytes.Equal(s, make([]byte, 4)) {
		t.Errorf("what was handed in changed with what was appended: %v", s)
	}
}

func TestOfLeavesItsRows(t *testing.T) {
	rows := [][]byte{count(5), nil, count(3)}
	first := crc.Of(rows...)
	if !bytes.Equal(rows[0], count(5)) || len(rows[1]) != 0 || !bytes.Equal(rows[2], count(3)) {
		t.Errorf("Of changed %v", rows)
	}
	if again := crc.Of(rows...); again != first {
		t.Errorf("Of = %d, then %d", first, again)
	}
}

// P2.3

func TestUpTo32BitsChangedHaveAnotherSum(t *testing.T) {
	for _, b := range [][]byte{count(10), make([]byte, 10), bytes.Repeat([]byte{255}, 10)} {
		sum := crc.Of(b)
		eachBurst(len(b), func(at int, pattern uint32) {
			if crc.Of(flipped(b, at, pattern)) == sum {
				t.Errorf("Of %v with bits %b from %d on turned is the same", b, pattern, at)
			}
		})
	}
}

func TestRowsPartedAnywhere(t *testing.T) {
	b := count(12)
	sum := bitByBit(b)
	for i := range len(b) + 1 {
		for j := i; j <= len(b); j++ {
			if n := crc.Of(b[:i], b[i:j], b[j:]); n != sum {
				t.Errorf("Of parted at %d and %d = %d, want %d", i, j, n, sum)
			}
		}
	}
	var single [][]byte
	for i := range b {
		single = append(single, b[i:i+1], nil)
	}
	if n := crc.Of(single...); n != sum {
		t.Errorf("Of single bytes = %d, want %d", n, sum)
	}
}

func FuzzOpenIsSealed(f *testing.F) {
	f.Add([]byte("123456789"))
	f.Add([]byte{0, 0, 0, 0})
	f.Add([]byte{1})
	f.Fuzz(func(t *testing.T, b []byte) {
		if crc.Of(b) != bitByBit(b) {
			t.Errorf("Of(%v) = %d", b, crc.Of(b))
		}
		if l, is := crc.Open(crc.Seal(b)); !is || !bytes.Equal(l, b) {
			t.Errorf("Open of sealed %v = %v, %v", b, l, is)
		}
		l, is := crc.Open(b)
		if is && !bytes.Equal(crc.Seal(l), b) || !is && len(l) != 0 {
			t.Errorf("Open(%v) = %v, %v", b, l, is)
		}
	})
}
