package octet_test

import (
	"bytes"
	"math"
	"slices"
	"testing"

	"paternoster/api"
	"paternoster/octet"
)

// badSizes are sizes that no number may have.
var badSizes = []int{math.MinInt, -8, -1, 0, 9, 16, math.MaxInt}

// count is bytes that differ from their neighbours.
func count(n int) []byte {
	b := make([]byte, n)
	for i := range b {
		b[i] = byte(i*7 + i/256 + 1)
	}
	return b
}

// greatest is the greatest number that fits so many bytes.
func greatest(size int) uint64 { return math.MaxUint64 >> (64 - 8*size) }

func sameRows(a, b [][]byte) bool { return slices.EqualFunc(a, b, bytes.Equal) }

// P1.1

func TestPut(t *testing.T) {
	const n = 0x0807060504030201
	for _, c := range []struct {
		size int
		l    []uint64
		want []byte
	}{
		{2, []uint64{258, 1}, []byte{2, 1, 1, 0}},
		{1, []uint64{0, 1, 255}, []byte{0, 1, 255}},
		{1, []uint64{n}, []byte{1}},
		{2, []uint64{n}, []byte{1, 2}},
		{3, []uint64{n}, []byte{1, 2, 3}},
		{4, []uint64{n}, []byte{1, 2, 3, 4}},
		{5, []uint64{n}, []byte{1, 2, 3, 4, 5}},
		{6, []uint64{n}, []byte{1, 2, 3, 4, 5, 6}},
		{7, []uint64{n}, []byte{1, 2, 3, 4, 5, 6, 7}},
		{8, []uint64{n}, []byte{1, 2, 3, 4, 5, 6, 7, 8}},
		{8, []uint64{math.MaxUint64, 0, 1 << 63}, []byte{255, 255, 255, 255, 255, 255, 255, 255, 0, 0, 0, 0, 0, 0, 0, 0, 0, 0, 0, 0, 0, 0, 0, 128}},
		{1, []uint64{256, 257, 511}, []byte{0, 1, 255}},
		{2, []uint64{65536, 65536 + 7, math.MaxUint64}, []byte{0, 0, 7, 0, 255, 255}},
		{1, nil, nil},
		{8, nil, nil},
	} {
		if b := octet.Put(c.size, c.l...); !bytes.Equal(b, c.want) {
			t.Errorf("Put(%d, %v) = %v, want %v", c.size, c.l, b, c.want)
		}
	}
}

func TestPutOfNoSuchSize(t *testing.T) {
	for _, size := range badSizes {
		if b := octet.Put(size, 1, 2, 3); len(b) != 0 {
			t.Errorf("Put(%d, ..) = %v", size, b)
		}
		if b := octet.Put(size); len(b) != 0 {
			t.Errorf("Put(%d) = %v", size, b)
		}
	}
}

func TestGet(t *testing.T) {
	b := []byte{1, 2, 3, 4, 5, 6, 7, 8}
	for _, c := range []struct {
		size int
		b    []byte
		want []uint64
	}{
		{1, b, []uint64{1, 2, 3, 4, 5, 6, 7, 8}},
		{2, b, []uint64{0x0201, 0x0403, 0x0605, 0x0807}},
		{3, b[:6], []uint64{0x030201, 0x060504}},
		{4, b, []uint64{0x04030201, 0x08070605}},
		{5, b[:5], []uint64{0x0504030201}},
		{6, b[:6], []uint64{0x060504030201}},
		{7, b[:7], []uint64{0x07060504030201}},
		{8, b, []uint64{0x0807060504030201}},
		{8, bytes.Repeat([]byte{255}, 16), []uint64{math.MaxUint64, math.MaxUint64}},
		{1, nil, nil},
		{8, []byte{}, nil},
	} {
		if l, e := octet.Get(c.size, c.b); e != api.OK || !slices.Equal(l, c.want) {
			t.Errorf("Get(%d, %v) = %v, %v, want %v", c.size, c.b, l, e, c.want)
		}
	}
}

func TestGetOfNoSuchSize(t *testing.T) {
	// Also of bytes that would end too early: the size is held first.
	for _, size := range badSizes {
		for _, n := range []int{0, 1, 8, 9, 17} {
			if l, e := octet.Get(size, count(n)); e != api.ErrArg || len(l) != 0 {
				t.Errorf("Get(%d, %d bytes) = %v, %v", size, n, l, e)
			}
		}
	}
}

func TestGetOfTooFewBytes(t *testing.T) {
	for size := 1; size <= 8; size++ {
		for n := range 40 {
			l, e := octet.Get(size, count(n))
			if n%size == 0 && (e != api.OK || len(l) != n/size) {
				t.Errorf("Get(%d, %d bytes) = %v, %v", size, n, l, e)
			}
			if n%size != 0 && (e != api.ErrShort || len(l) != 0) {
				t.Errorf("Get(%d, %d bytes) = %v, %v, want ErrShort", size, n, l, e)
			}
		}
	}
}

// P1.2

func TestJoin(t *testing.T) {
	for _, c := range []struct {
		rows [][]byte
		want string
	}{
		{nil, ""},
		{[][]byte{nil}, "\x00\x00"},
		{[][]byte{{}, nil}, "\x00\x00\x00\x00"},
		{[][]byte{[]byte("a"), nil}, "\x01\x00a\x00\x00"},
		{[][]byte{nil, []byte("a"), []byte("bc")}, "\x00\x00\x01\x00a\x02\x00bc"},
		{[][]byte{{0, 255}}, "\x02\x00\x00\xff"},
		{[][]byte{count(255)}, "\xff\x00" + string(count(255))},
		{[][]byte{count(256), {9}}, "\x00\x01" + string(count(256)) + "\x01\x00\x09"},
		{[][]byte{count(258)}, "\x02\x01" + string(count(258))},
	} {
		if b := octet.Join(c.rows...); string(b) != c.want {
			t.Errorf("Join of %d rows = %v, want %v", len(c.rows), b, []byte(c.want))
		}
	}
}

func TestJoinOfLongRows(t *testing.T) {
	for _, n := range []int{65534, 65535, 65536, 65537, 70000, 131072} {
		row := count(n)
		told := row[:min(n, 65535)]
		b := octet.Join(row, []byte("z"))
		want := slices.Concat([]byte{byte(len(told)), byte(len(told) >> 8)}, told, []byte{1, 0, 'z'})
		if !bytes.Equal(b, want) {
			t.Errorf("Join of a row of %d bytes: %d bytes, from %v on, want %d", n, len(b), b[:2], len(want))
		}
		if l, e := octet.Part(b); e != api.OK || !sameRows(l, [][]byte{told, []byte("z")}) {
			t.Errorf("Part of a row of %d bytes: %d rows, %v", n, len(l), e)
		}
	}
}

func TestPart(t *testing.T) {
	for _, c := range []struct {
		b    string
		want [][]byte
	}{
		{"", nil},
		{"\x00\x00", [][]byte{nil}},
		{"\x00\x00\x00\x00", [][]byte{nil, nil}},
		{"\x01\x00a\x00\x00", [][]byte{[]byte("a"), nil}},
		{"\x02\x00bc\x01\x00\x00", [][]byte{[]byte("bc"), {0}}},
		{"\x01\x01" + string(count(257)), [][]byte{count(257)}},
	} {
		if l, e := octet.Part([]byte(c.b)); e != api.OK || !sameRows(l, c.want) {
			t.Errorf("Part(%q) = %v, %v, want %v", c.b, l, e, c.want)
		}
	}
	if l, e := octet.Part(nil); e != api.OK || len(l) != 0 {
		t.Errorf("Part(nil) = %v, %v", l, e)
	}
}

func TestPartOfTooFewBytes(t *testing.T) {
	for _, b := range []string{
		"\x00",               // within a length
		"\x01",               // likewise
		"\x01\x00",           // behind a length
		"\x02\x00a",          // within a row
		"\x00\x01a",          // a length's upper byte counts
		"\xff\xff",           // the greatest length
		"\x01\x00a\x00",      // within the next length
		"\x01\x00a\x01\x00",  // behind the next length
		"\x01\x00a\x02\x00b", // within the next row
	} {
		if l, e := octet.Part([]byte(b)); e != api.ErrShort || len(l) != 0 {
			t.Errorf("Part(%q) = %v, %v, want ErrShort", b, l, e)
		}
	}
}

func TestPartCutAnywhere(t *testing.T) {
	rows := [][]byte{[]byte("a"), nil, count(5), count(3)}
	all := octet.Join(rows...)
	ends := map[int]int{0: 0}
	for i := range rows {
		ends[len(octet.Join(rows[:i+1]...))] = i + 1
	}
	for n := range len(all) + 1 {
		l, e := octet.Part(all[:n])
		if k, whole := ends[n]; whole {
			if e != api.OK || !sameRows(l, rows[:k]) {
				t.Errorf("Part of the first %d bytes = %v, %v, want %d rows", n, l, e, k)
			}
		} else if e != api.ErrShort || len(l) != 0 {
			t.Errorf("Part of the first %d bytes = %v, %v, want ErrShort", n, l, e)
		}
	}
	// Nothing may be read behind the end, even where the array goes on.
	if _, e := octet.Part(all[:2:len(all)]); e != api.ErrShort {
		t.Errorf("Part of bytes with more behind: %v", e)
	}
}

func TestPartIsNewMemory(t *testing.T) {
	b := octet.Join([]byte("ab"), nil, []byte("cd"))
	kept := bytes.Clone(b)
	l, _ := octet.Part(b)
	for i := range b {
		b[i] = 77
	}
	if !sameRows(l, [][]byte{[]byte("ab"), nil, []byte("cd")}) {
		t.Errorf("rows changed with what was handed in: %v", l)
	}
	copy(b, kept)
	// Each row may be written and appended to alone.
	_ = append(l[0], 1, 2, 3, 4)
	_ = append(l[1], 1, 2, 3, 4)
	l[0][0], l[0][1] = 8, 9
	if !bytes.Equal(l[2], []byte("cd")) || len(l[1]) != 0 {
		t.Errorf("rows share memory: %v", l)
	}
	if !bytes.Equal(b, kept) {
		t.Errorf("what was handed in changed: %v", b)
	}
}

func TestArgumentsStay(t *testing.T) {
	l := []uint64{1, 258, math.MaxUint64}
	octet.Put(2, l...)
	if !slices.Equal(l, []uint64{1, 258, math.MaxUint64}) {
		t.Errorf("Put changed %v", l)
	}
	room := count(20)
	b := room[:8]
	octet.Get(2, b)
	octet.Part(b)
	j := octet.Join(b, room[8:16])
	j[2] = 99
	if !bytes.Equal(room, count(20)) {
		t.Errorf("Get, Part or Join changed %v", room)
	}
}

// P1.3

func TestWhatIsPutIsGot(t *testing.T) {
	for size := 1; size <= 8; size++ {
		m := greatest(size)
		l := []uint64{0, 1, m, m - 1, m / 2, m/2 + 1, m / 3, 0x0102030405060708 & m, 0}
		for n := range len(l) + 1 {
			b := octet.Put(size, l[:n]...)
			if len(b) != size*n {
				t.Errorf("Put(%d, %d numbers): %d bytes", size, n, len(b))
			}
			if got, e := octet.Get(size, b); e != api.OK || !slices.Equal(got, l[:n]) {
				t.Errorf("size %d: put %v, got %v, %v", size, l[:n], got, e)
			}
		}
	}
}

func TestWhatDoesNotFitIsGotInPart(t *testing.T) {
	for size := 1; size < 8; size++ {
		m := greatest(size)
		for _, n := range []uint64{m + 1, m + 2, math.MaxUint64, 1 << 63} {
			if l, e := octet.Get(size, octet.Put(size, n)); e != api.OK || !slices.Equal(l, []uint64{n & m}) {
				t.Errorf("size %d: put %d, got %v, %v", size, n, l, e)
			}
		}
	}
}

func TestWhatIsJoinedIsParted(t *testing.T) {
	rows := [][]byte{}
	for _, n := range []int{0, 1, 2, 0, 255, 256, 257, 65534, 65535, 0, 3} {
		rows = append(rows, count(n))
		if l, e := octet.Part(octet.Join(rows...)); e != api.OK || !sameRows(l, rows) {
			t.Errorf("%d rows joined, %d parted, %v", len(rows), len(l), e)
		}
	}
}

func FuzzPartIsJoined(f *testing.F) {
	f.Add([]byte{1, 0, 97, 0, 0})
	f.Add([]byte{2, 0, 97})
	f.Fuzz(func(t *testing.T, b []byte) {
		l, e := octet.Part(b)
		if e == api.OK && !bytes.Equal(octet.Join(l...), b) || e != api.OK && (e != api.ErrShort || len(l) != 0) {
			t.Errorf("Part(%v) = %v, %v", b, l, e)
		}
	})
}
