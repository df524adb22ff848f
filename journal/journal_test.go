package journal_test

import (
	"bytes"
	"hash/crc32"
	"math"
	"slices"
	"testing"

	"paternoster/api"
	"paternoster/journal"
	"paternoster/ledger"
)

const (
	least    = math.MinInt
	greatest = math.MaxInt
	lastSeq  = math.MaxUint64
	power    = 1048576
)

// row is permits, told as cars and peaks by turns.
func row(n ...int) []ledger.Permit {
	var l []ledger.Permit
	for i := 0; i < len(n); i += 2 {
		l = append(l, ledger.Permit{Car: n[i], Peak: n[i+1]})
	}
	return l
}

// books is a ledger without Credit.
func books(budget, margin int, n ...int) ledger.Ledger {
	return ledger.Ledger{Budget: budget, Margin: margin, L: row(n...)}
}

// whole is a permit of each of the first cars, of one peak.
func whole(cars, peak int) []ledger.Permit {
	l := make([]ledger.Permit, cars)
	for car := range l {
		l[car] = ledger.Permit{Car: car, Peak: peak}
	}
	return l
}

// ledgers are some that may be, about the ends of what may be, all without Credit, and no two the same.
func ledgers() []ledger.Ledger {
	return []ledger.Ledger{
		books(0, 0), books(1, 0), books(0, 1), books(power, power), books(10, 3, 1, 6), books(10, 3, 1, 6, 2, 4), books(10, 3, 2, 4, 1, 6),
		books(0, 0, 0, 0), books(0, 0, 63, 0), books(power, 256, 63, power), books(power, 65535, 0, power-1, 62, 1), books(65536, 65536, 7, 65535, 8, 1),
		books(255, 255, 3, 255), books(256, 257, 3, 256), {Budget: power, L: whole(64, 16384)}, {Budget: 64, Margin: 9, L: whole(64, 1)}, {Budget: 9, L: whole(63, 0)},
	}
}

// seqs are numbers about the ends of bytes.
var seqs = []uint64{0, 1, 2, 3, 254, 255, 256, 257, 65535, 65536, 1<<32 - 1, 1 << 32, 1<<32 + 1, 1<<40 + 5, 0x0807060504030201, 1<<63 - 1, 1 << 63, lastSeq - 1, lastSeq}

// same tells whether two ledgers are the same; nil and empty lists are one.
func same(a, b ledger.Ledger) bool {
	return a.Budget == b.Budget && a.Margin == b.Margin && a.Credit == b.Credit && slices.Equal(a.L, b.L)
}

// none tells whether a ledger is the zero one.
func none(l ledger.Ledger) bool { return same(l, ledger.Ledger{}) }

// low is a number's lowest bytes, the lowest one first.
func low(size int, n uint64) []byte {
	var b []byte
	for range size {
		b = append(b, byte(n%256))
		n /= 256
	}
	return b
}

// words is numbers in four bytes each.
func words(n ...int) []byte {
	var b []byte
	for _, x := range n {
		b = append(b, low(4, uint64(x))...)
	}
	return b
}

// joined is rows, each with how many bytes it has ahead.
func joined(rows ...[]byte) []byte {
	var b []byte
	for _, r := range rows {
		r = r[:min(len(r), 65535)]
		b = append(b, byte(len(r)%256), byte(len(r)/256))
		b = append(b, r...)
	}
	return b
}

// sealed is bytes with their sum behind.
func sealed(b []byte) []byte {
	return append(slices.Clone(b), low(4, uint64(crc32.ChecksumIEEE(b)))...)
}

// putOf is Put, as the words tell it.
func putOf(l ledger.Ledger, seq uint64) []byte {
	var permits []byte
	for _, p := range l.L {
		permits = append(permits, words(p.Car, p.Peak)...)
	}
	return sealed(joined(low(8, seq), words(l.Budget, l.Margin), permits))
}

// number is that of bytes, the lowest one first.
func number(b []byte) uint64 {
	n := uint64(0)
	for i := len(b) - 1; i >= 0; i-- {
		n = n*256 + uint64(b[i])
	}
	return n
}

// partsOf are the rows of bytes; false: they end too early.
func partsOf(b []byte) ([][]byte, bool) {
	var rows [][]byte
	for len(b) > 0 {
		if len(b) == 1 || len(b) < 2+int(number(b[:2])) {
			return nil, false
		}
		n := 2 + int(number(b[:2]))
		rows = append(rows, b[2:n])
		b = b[n:]
	}
	return rows, true
}

// getOf is Get, as the promise's words tell it.
func getOf(b []byte) (ledger.Ledger, uint64, api.Errno) {
	end := len(b) - 4
	if end < 0 || uint64(crc32.ChecksumIEEE(b[:end])) != number(b[end:]) {
		return ledger.Ledger{}, 0, api.ErrSum
	}
	rows, ok := partsOf(b[:end])
	if !ok {
		return ledger.Ledger{}, 0, api.ErrShort
	}
	if len(rows) != 3 || len(rows[0]) != 8 || len(rows[1]) != 8 || len(rows[2])%8 != 0 {
		return ledger.Ledger{}, 0, api.ErrForm
	}
	l := ledger.Ledger{Budget: int(number(rows[1][:4])), Margin: int(number(rows[1][4:]))}
	for r := rows[2]; len(r) > 0; r = r[8:] {
		l.L = append(l.L, ledger.Permit{Car: int(number(r[:4])), Peak: int(number(r[4:8]))})
	}
	if !ledger.Check(l) {
		return ledger.Ledger{}, 0, api.ErrForm
	}
	return l, number(rows[0]), api.OK
}

// model is a journal, as the words tell it.
type model struct {
	slots [2][]byte
	wrote bool
	last  int    // the place that was written last
	ahead []byte // what was there ahead of that write
}

func (m model) load() (ledger.Ledger, uint64, bool) {
	zero, zeroSeq, zeroErr := getOf(m.slots[0])
	one, oneSeq, oneErr := getOf(m.slots[1])
	zeroCounts := zeroErr == api.OK && zeroSeq != 0 && zeroSeq%2 == 0
	oneCounts := oneErr == api.OK && oneSeq%2 == 1
	switch {
	case zeroCounts && (!oneCounts || zeroSeq > oneSeq):
		return zero, zeroSeq, true
	case oneCounts:
		return one, oneSeq, true
	}
	return ledger.Ledger{}, 0, false
}

func (m model) write(l ledger.Ledger) model {
	_, seq, _ := m.load()
	m.last = 1
	if (seq+1)%2 == 0 {
		m.last = 0
	}
	m.wrote, m.ahead = true, m.slots[m.last]
	m.slots[m.last] = putOf(l, seq+1)
	return m
}

func (m model) tear(n int) model {
	n = max(n, 0)
	if !m.wrote || len(m.slots[m.last]) <= n {
		return m
	}
	var b []byte
	for at := 0; at < n || at < len(m.ahead); at++ {
		if at < n {
			b = append(b, m.slots[m.last][at])
		} else {
			b = append(b, m.ahead[at])
		}
	}
	m.slots[m.last] = b
	return m
}

// both is a journal of two places, and the model of it.
func both(a, b []byte) (journal.Journal, model) {
	return journal.From(a, b), model{slots: [2][]byte{a, b}}
}

// hold fails unless a journal is as its model.
func hold(t *testing.T, j journal.Journal, m model) {
	t.Helper()
	l, seq, is := j.Load()
	if want, wantSeq, wantIs := m.load(); !same(l, want) || seq != wantSeq || is != wantIs {
		t.Fatalf("Load() = %+v, %d, %t, want %+v, %d, %t", l, seq, is, want, wantSeq, wantIs)
	}
	if s := j.Slots(); len(s) != 2 || !bytes.Equal(s[0], m.slots[0]) || !bytes.Equal(s[1], m.slots[1]) {
		t.Fatalf("Slots() = %v, want %v", s, m.slots)
	}
}

// refused fails unless Get tells an error, and nothing else.
func refused(t *testing.T, b []byte, want api.Errno) {
	t.Helper()
	if l, seq, err := journal.Get(b); err != want || !none(l) || seq != 0 {
		t.Errorf("Get(%v) = %+v, %d, %v, want %v", b, l, seq, err, want)
	}
}

// P16.1

func TestPut(t *testing.T) {
	for _, c := range []struct {
		l    ledger.Ledger
		seq  uint64
		want []byte
	}{
		{books(9, 2, 3, 4), 5, []byte{8, 0, 5, 0, 0, 0, 0, 0, 0, 0, 8, 0, 9, 0, 0, 0, 2, 0, 0, 0, 8, 0, 3, 0, 0, 0, 4, 0, 0, 0, 111, 243, 156, 169}},
		{books(0, 0), 0, []byte{8, 0, 0, 0, 0, 0, 0, 0, 0, 0, 8, 0, 0, 0, 0, 0, 0, 0, 0, 0, 0, 0, 30, 225, 102, 23}},
		{books(power, 65537, 63, 256, 0, 1048320), 0x0807060504030201, []byte{8, 0, 1, 2, 3, 4, 5, 6, 7, 8, 8, 0, 0, 0, 16, 0, 1, 0, 1, 0, 16, 0, 63, 0, 0, 0, 0, 1, 0, 0, 0, 0, 0, 0, 0, 255, 15, 0, 123, 108, 67, 92}},
	} {
		if b := journal.Put(c.l, c.seq); !bytes.Equal(b, c.want) {
			t.Errorf("Put(%+v, %d) = %v, want %v", c.l, c.seq, b, c.want)
		}
	}
	for _, l := range ledgers() {
		for _, seq := range seqs {
			if b := journal.Put(l, seq); !bytes.Equal(b, putOf(l, seq)) {
				t.Fatalf("Put(%+v, %d) = %v", l, seq, b)
			}
		}
	}
}

func TestPutKeepsNoCredit(t *testing.T) {
	for _, credit := range []int{1, 7, 256, power, -1, greatest, least} {
		for _, l := range ledgers() {
			want := journal.Put(l, 6)
			l.Credit = credit
			b := journal.Put(l, 6)
			if !bytes.Equal(b, want) {
				t.Fatalf("Put(%+v, 6) = %v, want %v", l, b, want)
			}
			if m, _, err := journal.Get(b); err != api.OK || m.Credit != 0 {
				t.Fatalf("%+v, %v", m, err)
			}
		}
	}
}

func TestPutOfNumbersThatDontFit(t *testing.T) {
	for _, c := range []struct {
		n    int
		want []byte
	}{
		{-1, []byte{255, 255, 255, 255}}, {-2, []byte{254, 255, 255, 255}}, {-256, []byte{0, 255, 255, 255}}, {least, []byte{0, 0, 0, 0}}, {least + 3, []byte{3, 0, 0, 0}},
		{1<<32 - 1, []byte{255, 255, 255, 255}}, {1 << 32, []byte{0, 0, 0, 0}}, {1<<32 + 7, []byte{7, 0, 0, 0}}, {1 << 31, []byte{0, 0, 0, 128}}, {greatest, []byte{255, 255, 255, 255}}, {0x0807060504030201, []byte{1, 2, 3, 4}},
	} {
		zero := []byte{0, 0, 0, 0}
		seq := low(8, 1)
		for i, b := range [][]byte{
			journal.Put(books(c.n, 0, 0, 0), 1), journal.Put(books(0, c.n, 0, 0), 1), journal.Put(books(0, 0, c.n, 0), 1), journal.Put(books(0, 0, 0, c.n), 1),
		} {
			n := [][]byte{zero, zero, zero, zero}
			n[i] = c.want
			if want := sealed(joined(seq, slices.Concat(n[0], n[1]), slices.Concat(n[2], n[3]))); !bytes.Equal(b, want) {
				t.Errorf("%d as number %d: %v, want %v", c.n, i, b, want)
			}
		}
	}
}

func TestPutOfManyPermits(t *testing.T) {
	for _, n := range []int{31, 32, 64, 65, 8191, 8192, 20000} {
		l := ledger.Ledger{Budget: 9, L: whole(n, 1)}
		b := journal.Put(l, 3)
		if !bytes.Equal(b, putOf(l, 3)) {
			t.Errorf("%d permits: %d bytes", n, len(b))
		}
		refused(t, b, api.ErrForm)
	}
}

func TestGetOfWhatWasPut(t *testing.T) {
	for _, l := range ledgers() {
		for _, seq := range seqs {
			m, got, err := journal.Get(journal.Put(l, seq))
			if err != api.OK || got != seq || !same(m, l) {
				t.Fatalf("Get of Put(%+v, %d) = %+v, %d, %v", l, seq, m, got, err)
			}
		}
	}
}

func TestGetOfAnotherSum(t *testing.T) {
	for _, b := range [][]byte{nil, {}, {0}, {0, 0}, {0, 0, 0}, {1, 0, 0, 0}, {0, 0, 0, 1}, []byte("a ledger")} {
		refused(t, b, api.ErrSum)
	}
	b := journal.Put(books(10, 3, 1, 6, 2, 4), 7)
	for n := range b {
		refused(t, b[:n], api.ErrSum)
	}
	refused(t, b[1:], api.ErrSum)
	for x := range 256 {
		refused(t, append(slices.Clone(b), byte(x)), api.ErrSum)
	}
	for at := range b {
		for x := 1; x < 256; x++ {
			c := slices.Clone(b)
			c[at] ^= byte(x)
			refused(t, c, api.ErrSum)
		}
	}
}

func TestGetOfRowsThatEndTooEarly(t *testing.T) {
	b := joined(low(8, 7), words(10, 3), words(1, 6, 2, 4))
	for n := range b {
		want := api.ErrShort
		if n == 0 || n == 10 || n == 20 {
			// Behind a row nothing ends too early, but there are too few of them.
			want = api.ErrForm
		}
		refused(t, sealed(b[:n]), want)
	}
	refused(t, sealed(append(slices.Clone(b), 0)), api.ErrShort)
	refused(t, sealed(append(slices.Clone(b), 1, 0)), api.ErrShort)
	refused(t, sealed([]byte{255, 255, 1}), api.ErrShort)
	// Ahead of the form.
	refused(t, sealed(append(joined(low(7, 7), words(10, 3)), 9)), api.ErrShort)
	refused(t, sealed(append(joined(low(8, 7), words(10, 3), nil, nil), 9)), api.ErrShort)
	refused(t, sealed(append(joined(low(8, 7), words(10, 11), words(64, 1)), 9)), api.ErrShort)
	// And behind the sum.
	refused(t, append(sealed(b[:5]), 0), api.ErrSum)
}

func TestGetOfAnotherForm(t *testing.T) {
	seq, head := low(8, 7), words(10, 3)
	if l, n, err := journal.Get(sealed(joined(seq, head, nil))); err != api.OK || n != 7 || !same(l, books(10, 3)) {
		t.Error(l, n, err)
	}
	for _, rows := range [][][]byte{
		// Not three rows.
		nil, {nil}, {seq}, {seq, head}, {seq, head, nil, nil}, {seq, head, words(1, 6), words(2, 4)}, {nil, seq, head, nil}, {seq, head, nil, nil, nil},
		// Not of their lengths.
		{nil, head, nil}, {seq, nil, nil}, {low(7, 7), head, nil}, {low(9, 7), head, nil}, {low(16, 7), head, nil}, {low(4, 7), head, nil}, {seq, words(10), nil}, {seq, words(10, 3, 0), nil}, {seq, words(10, 3, 0, 0), nil}, {seq, head[:7], nil}, {seq, low(9, 10), nil},
		{seq, head, words(1)}, {seq, head, words(1, 6)[:7]}, {seq, head, low(9, 1)}, {seq, head, low(1, 1)}, {seq, head, words(1, 6, 2)}, {seq, head, low(15, 1)}, {seq, head, low(17, 1)},
		{nil, nil, nil}, {low(16, 7), nil, nil}, {nil, low(16, 7), nil}, {low(4, 7), low(12, 7), nil},
		// The rows in another order.
		{head, nil, seq}, {nil, seq, head},
	} {
		refused(t, sealed(joined(rows...)), api.ErrForm)
	}
}

func TestGetOfALedgerThatMayNotBe(t *testing.T) {
	for _, l := range []ledger.Ledger{
		books(power+1, 0), books(0, power+1), books(-1, 0), books(0, -1), books(1<<32-1, 0), books(0, 1<<31), books(5, 3, 1, 6), books(9, 3, 1, 6, 2, 4), books(0, 0, 1, 1),
		books(9, 0, 64, 1), books(9, 0, -1, 1), books(9, 0, 1, -1), books(9, 0, 256, 1), books(power, 0, 1, power+1), books(9, 0, 1, 1<<32-1, 2, 1), books(9, 0, 3, 1, 3, 1), books(9, 0, 3, 1, 4, 1, 3, 1), books(0, 0, 0, 0, 0, 0),
		{Budget: 65, L: append(whole(64, 1), ledger.Permit{Car: 64})}, {Budget: 65, L: append(whole(64, 1), ledger.Permit{Car: 63})}, {Budget: 63, L: whole(64, 1)},
	} {
		refused(t, journal.Put(l, 7), api.ErrForm)
		refused(t, journal.Put(l, 0), api.ErrForm)
	}
	// Some that may not be have the bytes of others that may.
	for _, c := range []struct{ l, want ledger.Ledger }{
		{books(1<<32+9, 0), books(9, 0)}, {books(least, 0), books(0, 0)}, {books(9, 1<<40+4, 1<<32+5, 1<<33+6), books(9, 4, 5, 6)},
	} {
		if l, seq, err := journal.Get(journal.Put(c.l, 7)); err != api.OK || seq != 7 || !same(l, c.want) {
			t.Errorf("%+v: %+v, %d, %v", c.l, l, seq, err)
		}
	}
}

func TestGetOfAllSmallLedgers(t *testing.T) {
	taken := 0
	for budget := -1; budget < 8; budget++ {
		for a := -1; a < 5; a++ {
			for b := -1; b < 5; b++ {
				for _, l := range [][]ledger.Permit{row(), row(0, a), row(a, b), row(62, a, 63, b), row(a, 1, b, 2), row(63, a, 64, b), row(a, b, b, a, 9, 0)} {
					bytes := putOf(ledger.Ledger{Budget: budget, Margin: a, L: l}, uint64(b+1))
					got, seq, err := journal.Get(bytes)
					want, wantSeq, wantErr := getOf(bytes)
					if !same(got, want) || seq != wantSeq || err != wantErr {
						t.Fatalf("Get(%v) = %+v, %d, %v, want %+v, %d, %v", bytes, got, seq, err, want, wantSeq, wantErr)
					}
					if err == api.OK {
						taken++
					}
				}
			}
		}
	}
	if taken < 500 {
		t.Error(taken)
	}
}

func TestPutAndGetChangeAndKeepNothing(t *testing.T) {
	held := make([]ledger.Permit, 2, 4)
	copy(held, row(1, 6, 2, 4))
	l := ledger.Ledger{Budget: 10, Margin: 3, Credit: 2, L: held}
	b := journal.Put(l, 7)
	if !slices.Equal(held[:4], row(1, 6, 2, 4, 0, 0, 0, 0)) || l.Credit != 2 {
		t.Error(held[:4])
	}
	want := slices.Clone(b)
	held[0], held[1] = ledger.Permit{}, ledger.Permit{}
	if !bytes.Equal(b, want) {
		t.Error(b)
	}
	room := append(slices.Clone(b), 1, 2, 3)
	m, _, _ := journal.Get(room[:len(b)])
	n, _, _ := journal.Get(room[:len(b)])
	if !bytes.Equal(room, append(slices.Clone(b), 1, 2, 3)) {
		t.Error(room)
	}
	for i := range room {
		room[i] = 77
	}
	n.L[0], n.L[1] = ledger.Permit{}, ledger.Permit{}
	if !same(m, books(10, 3, 1, 6, 2, 4)) {
		t.Error(m)
	}
}

// P16.2

func TestLoadOfAWrite(t *testing.T) {
	for _, start := range []journal.Journal{{}, journal.From(nil, nil), journal.From([]byte{}, []byte("none"))} {
		if l, seq, is := start.Load(); is || seq != 0 || !none(l) {
			t.Error(l, seq, is)
		}
		j := start
		for i, l := range ledgers() {
			j = j.Write(l)
			if m, seq, is := j.Load(); !is || seq != uint64(i+1) || !same(m, l) {
				t.Fatalf("write %d of %+v: %+v, %d, %t", i, l, m, seq, is)
			}
		}
	}
	l := books(10, 3, 1, 6)
	l.Credit = 2
	if m, _, is := journal.From(nil, nil).Write(l).Load(); !is || !same(m, books(10, 3, 1, 6)) {
		t.Error(m, is)
	}
}

func TestWhichPlaceCounts(t *testing.T) {
	a, b := books(10, 3, 1, 6), books(8, 0, 2, 8)
	broken := journal.Put(a, 8)
	broken[13]++
	for _, c := range []struct {
		zero, one []byte
		want      ledger.Ledger
		seq       uint64
	}{
		// Even ones in place 0, odd ones in place 1.
		{journal.Put(a, 2), nil, a, 2}, {nil, journal.Put(b, 1), b, 1}, {nil, journal.Put(b, 3), b, 3}, {journal.Put(a, 1), nil, books(0, 0), 0}, {nil, journal.Put(b, 2), books(0, 0), 0}, {journal.Put(a, 3), journal.Put(b, 2), books(0, 0), 0}, {journal.Put(a, 1), journal.Put(b, 2), books(0, 0), 0},
		// Above 0.
		{journal.Put(a, 0), nil, books(0, 0), 0}, {nil, journal.Put(b, 0), books(0, 0), 0}, {journal.Put(a, 0), journal.Put(b, 0), books(0, 0), 0}, {journal.Put(a, 0), journal.Put(b, 1), b, 1},
		// The greater one.
		{journal.Put(a, 2), journal.Put(b, 1), a, 2}, {journal.Put(a, 2), journal.Put(b, 3), b, 3}, {journal.Put(a, 4), journal.Put(b, 3), a, 4}, {journal.Put(a, 100), journal.Put(b, 3), a, 100}, {journal.Put(a, 100), journal.Put(b, 301), b, 301}, {journal.Put(a, 2), journal.Put(b, 257), b, 257}, {journal.Put(a, 256), journal.Put(b, 3), a, 256},
		{journal.Put(a, 1<<32), journal.Put(b, 1<<32-1), a, 1 << 32}, {journal.Put(a, 1<<63), journal.Put(b, 1<<63-1), a, 1 << 63}, {journal.Put(a, 1<<63), journal.Put(b, 1), a, 1 << 63}, {journal.Put(a, 2), journal.Put(b, lastSeq), b, lastSeq}, {journal.Put(a, lastSeq-1), journal.Put(b, lastSeq), b, lastSeq}, {journal.Put(a, lastSeq-1), journal.Put(b, 7), a, lastSeq - 1},
		// Of those that count only.
		{journal.Put(a, 2), journal.Put(b, 4), a, 2}, {journal.Put(a, 5), journal.Put(b, 1), b, 1}, {broken, journal.Put(b, 1), b, 1}, {journal.Put(a, 2), []byte("none"), a, 2}, {journal.Put(a, 2), journal.Put(books(5, 0, 1, 6), 3), a, 2}, {journal.Put(books(5, 0, 1, 6), 4), journal.Put(b, 3), b, 3}, {broken, broken, books(0, 0), 0},
	} {
		j, m := both(c.zero, c.one)
		l, seq, is := j.Load()
		if !same(l, c.want) || seq != c.seq || is != (c.seq > 0) {
			t.Errorf("%v, %v: Load() = %+v, %d, %t, want %+v, %d", c.zero, c.one, l, seq, is, c.want, c.seq)
		}
		hold(t, j, m)
		// What is written on goes to the other place than that which is told.
		for i, l := range ledgers() {
			if c.seq > lastSeq-100 {
				break
			}
			j, m = j.Write(l), m.write(l)
			hold(t, j, m)
			if told, seq, is := j.Load(); !same(told, l) || seq != c.seq+uint64(i)+1 || !is {
				t.Fatalf("%v, %v: write %d: %+v, %d, %t", c.zero, c.one, i, told, seq, is)
			}
		}
	}
}

func TestWhereItIsWritten(t *testing.T) {
	a, b := []byte("place 0"), []byte("place 1")
	l, m := books(10, 3, 1, 6), books(8, 0)
	j := journal.From(a, b)
	for i, want := range [][2][]byte{
		{a, journal.Put(l, 1)}, {journal.Put(m, 2), journal.Put(l, 1)}, {journal.Put(m, 2), journal.Put(l, 3)}, {journal.Put(m, 4), journal.Put(l, 3)},
	} {
		j = j.Write([]ledger.Ledger{l, m}[i%2])
		if s := j.Slots(); len(s) != 2 || !bytes.Equal(s[0], want[0]) || !bytes.Equal(s[1], want[1]) {
			t.Errorf("write %d: %v, want %v", i, s, want)
		}
	}
	j = journal.From(journal.Put(l, 6), b).Write(m)
	if s := j.Slots(); !bytes.Equal(s[0], journal.Put(l, 6)) || !bytes.Equal(s[1], journal.Put(m, 7)) {
		t.Error(s)
	}
}

func TestAllPairsOfPlaces(t *testing.T) {
	rows := [][]byte{nil, {}, {0, 0, 0, 0}, []byte("none")}
	for _, seq := range []uint64{0, 1, 2, 3, 4, 255, 256, 65535, 1 << 32, 1<<32 + 1, lastSeq - 3, lastSeq - 2, lastSeq - 1, lastSeq} {
		rows = append(rows, putOf(books(int(seq%97), 3, 1, 0), seq), putOf(books(5, 3, 1, 6), seq), putOf(books(5, 3), seq)[1:])
	}
	for _, a := range rows {
		for _, b := range rows {
			j, m := both(a, b)
			hold(t, j, m)
			for i := range 3 {
				l := books(100+i, i, 4, i)
				hold(t, j.Tear(i), m.tear(i))
				j, m = j.Write(l), m.write(l)
				hold(t, j, m)
				hold(t, j.Tear(12+i), m.tear(12+i))
			}
		}
	}
}

func TestWriteOfALedgerThatMayNotBe(t *testing.T) {
	good, bad := books(10, 3, 1, 6), books(5, 3, 1, 6)
	j := journal.From(nil, nil).Write(bad)
	if l, seq, is := j.Load(); is || seq != 0 || !none(l) {
		t.Error(l, seq, is)
	}
	if s := j.Slots(); len(s[0]) != 0 || !bytes.Equal(s[1], putOf(bad, 1)) {
		t.Error(s)
	}
	j = j.Write(good).Write(bad)
	if l, seq, is := j.Load(); !is || seq != 1 || !same(l, good) {
		t.Error(l, seq, is)
	}
	j = j.Write(books(7, 0))
	if l, seq, is := j.Load(); !is || seq != 2 || !same(l, books(7, 0)) {
		t.Error(l, seq, is)
	}
}

func TestJournalsAreValues(t *testing.T) {
	l := ledgers()
	j := journal.From(journal.Put(l[4], 4), journal.Put(l[5], 3)).Write(l[6])
	_, m := both(journal.Put(l[4], 4), journal.Put(l[5], 3))
	m = m.write(l[6])
	hold(t, j, m)
	// Two ways from one journal on.
	x, y, z := j.Write(l[9]), j.Write(l[3]), j.Tear(17)
	hold(t, j, m)
	hold(t, x, m.write(l[9]))
	hold(t, y, m.write(l[3]))
	hold(t, z, m.tear(17))
	hold(t, x.Tear(3).Write(l[2]).Tear(9), m.write(l[9]).tear(3).write(l[2]).tear(9))
	hold(t, x, m.write(l[9]))
	hold(t, z.Tear(4), m.tear(4))
	hold(t, z, m.tear(17))
	hold(t, j, m)
}

func TestWhatIsHandedInAndToldIsNotShared(t *testing.T) {
	a, b := append(journal.Put(books(10, 3, 1, 6), 2), 9, 9), journal.Put(books(8, 0, 2, 8), 1)
	j := journal.From(a[:len(a)-2], b)
	m := model{slots: [2][]byte{slices.Clone(a[:len(a)-2]), slices.Clone(b)}}
	spoil := func(rows ...[]byte) {
		for _, r := range rows {
			for i := range r[:cap(r)] {
				r[:cap(r)][i] = 77
			}
		}
	}
	spoil(a, b)
	hold(t, j, m)
	spoil(j.Slots()...)
	hold(t, j, m)
	l := books(20, 1, 5, 20)
	want := books(20, 1, 5, 20)
	j, m = j.Write(l), m.write(want)
	l.L[0].Peak = 3
	hold(t, j, m)
	spoil(j.Slots()...)
	told, _, _ := j.Load()
	told.L[0].Peak = 4
	hold(t, j, m)
	for n := range 60 {
		spoil(j.Tear(n).Slots()...)
		hold(t, j, m)
	}
	// Both rows of one answer, too.
	same := journal.From(b, b).Slots()
	same[0][0]++
	if same[0][0] == same[1][0] {
		t.Error("one row twice")
	}
}

// P16.3

func TestTear(t *testing.T) {
	l := books(10, 3, 1, 6)
	one := journal.From(nil, nil).Write(l)
	full := journal.Put(l, 1)
	for _, c := range []struct {
		n    int
		want []byte
	}{
		{least, nil}, {-1, nil}, {0, nil}, {1, full[:1]}, {5, full[:5]}, {len(full) - 1, full[:len(full)-1]}, {len(full), full}, {len(full) + 1, full}, {greatest, full},
	} {
		if s := one.Tear(c.n).Slots(); len(s) != 2 || len(s[0]) != 0 || !bytes.Equal(s[1], c.want) {
			t.Errorf("Tear(%d): %v, want %v", c.n, s, c.want)
		}
	}
	if l, seq, is := one.Tear(5).Load(); is || seq != 0 || !none(l) {
		t.Error(l, seq, is)
	}
	// What reaches farther than what was written.
	long := []byte("something that is longer than all of a ledger's bytes are, if it has a permit")
	j := journal.From(nil, long).Write(l)
	for n := range len(long) + 3 {
		want := append(slices.Clone(full[:min(n, len(full))]), long[min(n, len(long)):]...)
		if n >= len(full) {
			want = full
		}
		if s := j.Tear(n).Slots(); len(s[0]) != 0 || !bytes.Equal(s[1], want) {
			t.Errorf("Tear(%d): %q, want %q", n, s[1], want)
		}
	}
	// And what reaches less far.
	short := []byte("short")
	j = journal.From(nil, short).Write(l)
	for n := range len(full) + 3 {
		want := slices.Clone(full[:min(n, len(full))])
		if n < len(short) {
			want = append(want, short[n:]...)
		}
		if s := j.Tear(n).Slots(); len(s[0]) != 0 || !bytes.Equal(s[1], want) {
			t.Errorf("Tear(%d): %q, want %q", n, s[1], want)
		}
	}
}

func TestTearOfAllWrites(t *testing.T) {
	for _, start := range [][2][]byte{{nil, nil}, {[]byte("x"), []byte("a place that isn't empty, and somewhat long")}, {putOf(books(9, 1, 3, 3), 4), putOf(books(2, 0), 5)}} {
		for _, first := range ledgers()[:12] {
			for _, next := range ledgers()[:12] {
				j, m := both(start[0], start[1])
				for _, l := range []ledger.Ledger{first, next, first, next} {
					j, m = j.Write(l), m.write(l)
					for n := -1; n <= len(putOf(l, 1))+1; n++ {
						hold(t, j.Tear(n), m.tear(n))
					}
				}
			}
		}
	}
}

func TestTearWhereNothingWasWritten(t *testing.T) {
	a, b := putOf(books(9, 1, 3, 3), 4), putOf(books(2, 0), 5)
	for _, n := range []int{least, -1, 0, 1, 5, 25, 26, 27, 34, 35, 100, greatest} {
		hold(t, journal.From(a, b).Tear(n), model{slots: [2][]byte{a, b}})
		hold(t, journal.From(b, a).Tear(n).Tear(3), model{slots: [2][]byte{b, a}})
		hold(t, journal.From(nil, nil).Tear(n), model{})
		hold(t, journal.Journal{}.Tear(n), model{})
	}
	// What was torn is only told by its places: from them on nothing was written.
	s := journal.From(a, b).Write(books(7, 0)).Tear(9).Slots()
	hold(t, journal.From(s[0], s[1]).Tear(4), model{slots: [2][]byte{s[0], s[1]}})
}

func TestTearOfWhatWasTorn(t *testing.T) {
	for _, long := range [][2]ledger.Ledger{{books(10, 3, 1, 6, 2, 4), books(8, 0)}, {books(8, 0), books(10, 3, 1, 6, 2, 4)}, {books(8, 0), books(9, 1)}} {
		j, m := both(nil, nil)
		j, m = j.Write(long[0]).Write(long[0]).Write(long[1]), m.write(long[0]).write(long[0]).write(long[1])
		for n := -1; n < 50; n++ {
			for k := -1; k < 50; k++ {
				hold(t, j.Tear(n).Tear(k), m.tear(n).tear(k))
				// It came through as far as the least of both.
				hold(t, j.Tear(n).Tear(k), m.tear(min(n, k)))
			}
		}
	}
}

func TestWriteBehindWhatWasTorn(t *testing.T) {
	l := ledgers()
	for n := range 60 {
		for k := range 60 {
			j, m := both(nil, putOf(l[5], 7))
			j, m = j.Write(l[4]).Tear(n), m.write(l[4]).tear(n)
			hold(t, j, m)
			j, m = j.Write(l[5]), m.write(l[5])
			hold(t, j, m)
			hold(t, j.Tear(k), m.tear(k))
			hold(t, j.Tear(k).Write(l[11]), m.tear(k).write(l[11]))
		}
	}
}

// P16.4

func TestBehindATornWriteTheOneAheadOrTheNewOneIsTold(t *testing.T) {
	for _, ahead := range ledgers() {
		for _, next := range ledgers() {
			for _, writes := range []int{1, 2, 3} {
				j := journal.From(nil, nil)
				for range writes {
					j = j.Write(ahead)
				}
				k := j.Write(next)
				for n := -1; n <= len(journal.Put(next, 1))+1; n++ {
					l, seq, is := k.Tear(n).Load()
					isAhead := is && seq == uint64(writes) && same(l, ahead)
					isNext := is && seq == uint64(writes+1) && same(l, next)
					if !isAhead && !isNext {
						t.Fatalf("%+v, %+v, %d writes, Tear(%d): %+v, %d, %t", ahead, next, writes, n, l, seq, is)
					}
					if n >= len(journal.Put(next, 1)) && !isNext || n <= 2 && !isAhead {
						t.Fatalf("%+v, %+v, %d writes, Tear(%d): %+v, %d", ahead, next, writes, n, l, seq)
					}
				}
			}
		}
	}
}

// mixed goes through numbers, always the same ones.
func mixed(times int, f func(n uint64)) {
	x := uint64(88172645463325252)
	for range times {
		x ^= x << 13
		x ^= x >> 7
		x ^= x << 17
		f(x)
	}
}

func TestManyWritesOfWhichSomeAreTorn(t *testing.T) {
	j, m := both(nil, nil)
	var told ledger.Ledger
	full, old := 0, 0
	mixed(20000, func(n uint64) {
		next := books(int(n>>8%4096)+100, int(n>>20%300))
		for car := range int(n >> 32 % 5) {
			next.L = append(next.L, ledger.Permit{Car: car*13 + int(n>>40%7), Peak: int(n>>48%20) + car})
		}
		j, m = j.Write(next), m.write(next)
		if n%3 == 0 {
			cut := int(n >> 52 % 70)
			j, m = j.Tear(cut), m.tear(cut)
		}
		hold(t, j, m)
		l, _, is := j.Load()
		switch {
		case is && same(l, next):
			full++
		case same(l, told):
			old++
		default:
			t.Fatalf("%+v, neither %+v nor %+v", l, told, next)
		}
		told = l
		if n%11 == 0 {
			s := j.Slots()
			j, m = both(s[0], s[1])
		}
	})
	if full < 10000 || old < 1000 {
		t.Errorf("%d came through, %d didn't", full, old)
	}
}

func FuzzGet(f *testing.F) {
	for _, l := range ledgers()[:10] {
		f.Add(joined(low(8, 7), words(l.Budget, l.Margin), putOf(l, 1)[22:]))
		f.Add(putOf(l, 3))
	}
	f.Fuzz(func(t *testing.T, b []byte) {
		for _, one := range [][]byte{b, sealed(b)} {
			l, seq, err := journal.Get(one)
			want, wantSeq, wantErr := getOf(one)
			if !same(l, want) || seq != wantSeq || err != wantErr {
				t.Errorf("Get(%v) = %+v, %d, %v, want %+v, %d, %v", one, l, seq, err, want, wantSeq, wantErr)
			}
			if err == api.OK && !bytes.Equal(journal.Put(l, seq), one) {
				t.Errorf("Put(%+v, %d) isn't %v", l, seq, one)
			}
		}
	})
}

func FuzzJournal(f *testing.F) {
	f.Add([]byte("a"), putOf(books(9, 1), 5), []byte{1, 2, 3, 4, 5})
	f.Add(putOf(books(9, 1, 3, 4), 6), []byte{}, []byte{0, 0, 9, 255, 128})
	f.Add(putOf(books(9, 1), lastSeq-1), putOf(books(9, 1), lastSeq), []byte{4, 4, 4, 7})
	f.Fuzz(func(t *testing.T, a, b, steps []byte) {
		all := ledgers()
		j, m := both(a, b)
		hold(t, j, m)
		for _, s := range steps {
			if s%2 == 0 {
				l := all[int(s/2)%len(all)]
				j, m = j.Write(l), m.write(l)
			} else {
				j, m = j.Tear(int(s/2)-2), m.tear(int(s/2)-2)
			}
			hold(t, j, m)
		}
	})
}
