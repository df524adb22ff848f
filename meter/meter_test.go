package meter_test

import (
	"math"
	"math/big"
	"slices"
	"testing"

	"paternoster/meter"
)

const (
	least    = math.MinInt
	greatest = math.MaxInt
	most     = 1099511627776 // sat's bound
)

// some are draws of all kinds: small ones, such as are given back, and what is about, and far beyond, the bound.
var some = []int{
	least, least + 1, -most - 1, -most, -1 << 32, -1000, -256, -4, -1,
	0, 1, 2, 3, 7, 255, 256, 257, 1000, 65535, 65536, 1<<20 - 1, 1 << 20, 1<<20 + 1,
	1<<31 - 1, 1 << 31, 1<<32 - 1, 1 << 32, 1<<32 + 1, most / 2, most/2 + 1,
	most - 2, most - 1, most, most + 1, 2 * most, 1 << 62, greatest - 1, greatest,
}

// sumOf is what a tick's draws come to, as the promise's words tell it; by numbers that have no end.
func sumOf(draws []int) int {
	sum, top := new(big.Int), big.NewInt(most)
	for _, d := range draws {
		if d > 0 {
			sum.Add(sum, big.NewInt(int64(d)))
		}
	}
	if sum.Cmp(top) > 0 {
		return most
	}
	return int(sum.Int64())
}

// book is what a meter must tell.
type book struct{ last, high, ticks int }

// tick is a book a tick on.
func (b book) tick(draws []int) book {
	sum := sumOf(draws)
	if sum > b.high {
		b.high = sum
	}
	return book{last: sum, high: b.high, ticks: b.ticks + 1}
}

// told is what a meter tells.
func told(m *meter.Meter) book { return book{last: m.Last(), high: m.High(), ticks: m.Ticks()} }

// follow holds a meter against its book through ticks, from the first one on.
func follow(t *testing.T, ticks ...[]int) {
	t.Helper()
	m, b := meter.New(), book{}
	for i, draws := range ticks {
		b = b.tick(draws)
		if n := m.Tick(draws...); n != b.last || told(m) != b {
			t.Fatalf("%v: Tick %d = %d, then %+v, want %+v", ticks, i, n, told(m), b)
		}
	}
}

// mixed goes through numbers of all lengths, above and below 0, always the same ones.
func mixed(times int, f func(n int)) {
	x := uint64(88172645463325252)
	for range times {
		x ^= x << 13
		x ^= x >> 7
		x ^= x << 17
		f(int(int64(x) >> ((x >> 3) % 64)))
	}
}

// P11.1

func TestNewMeteredNothing(t *testing.T) {
	m := meter.New()
	if m == nil {
		t.Fatal("New = nil")
	}
	if told(m) != (book{}) {
		t.Errorf("at first: %+v", told(m))
	}
}

func TestTheChaptersExample(t *testing.T) {
	m := meter.New()
	if n := m.Tick(3, -4, 2); n != 5 {
		t.Errorf("Tick(3, -4, 2) = %d", n)
	}
	if n := m.Tick(); n != 0 {
		t.Errorf("Tick() = %d", n)
	}
	if told(m) != (book{last: 0, high: 5, ticks: 2}) {
		t.Errorf("then: %+v", told(m))
	}
}

func TestTick(t *testing.T) {
	for _, c := range []struct {
		draws []int
		want  int
	}{
		{nil, 0}, {[]int{}, 0}, {[]int{0}, 0}, {[]int{7}, 7}, {[]int{2, 3}, 5}, {[]int{1, 2, 3, 4}, 10}, {[]int{5, 5, 5}, 15}, {[]int{0, 0, 9, 0}, 9},
		// What is given back is nothing: it takes off nothing of what is drawn, wherever it is told.
		{[]int{-1}, 0}, {[]int{-1, -2, -3}, 0}, {[]int{-1, 1}, 1}, {[]int{1, -1}, 1}, {[]int{-9, 3, 2}, 5}, {[]int{3, 2, -9}, 5}, {[]int{4, -1, 4, -1}, 8},
		{[]int{least}, 0}, {[]int{least, least}, 0}, {[]int{least, 6}, 6}, {[]int{6, least}, 6}, {[]int{-most - 1, 6}, 6},
		// The bound.
		{[]int{most - 1}, most - 1}, {[]int{most}, most}, {[]int{most + 1}, most}, {[]int{greatest}, most},
		{[]int{most - 1, 1}, most}, {[]int{most - 1, 2}, most}, {[]int{1, most}, most}, {[]int{most, most}, most}, {[]int{most / 2, most / 2}, most}, {[]int{most / 2, most/2 - 1}, most - 1},
		{[]int{greatest, greatest}, most}, {[]int{greatest, 1}, most}, {[]int{1 << 62, 1 << 62, 1 << 62, 1 << 62}, most},
		{[]int{most, -1}, most}, {[]int{most + 1, -1}, most}, {[]int{most, 5, -5}, most}, {[]int{greatest, least}, most}, {[]int{least, greatest}, most}, {[]int{most, -most}, most},
		// Numbers of more than 16 or 32 bits.
		{[]int{65535, 1}, 65536}, {[]int{1<<31 - 1, 1}, 1 << 31}, {[]int{1<<32 - 1, 1, 1}, 1<<32 + 1}, {[]int{1 << 32}, 1 << 32}, {[]int{1 << 39, 1 << 38}, 1<<39 + 1<<38},
	} {
		m := meter.New()
		if n := m.Tick(c.draws...); n != c.want {
			t.Errorf("Tick(%v) = %d, want %d", c.draws, n, c.want)
		}
		if told(m) != (book{last: c.want, high: c.want, ticks: 1}) {
			t.Errorf("Tick(%v), then %+v", c.draws, told(m))
		}
	}
}

func TestTickByTick(t *testing.T) {
	m := meter.New()
	for i, c := range []struct {
		draws      []int
		last, high int
	}{
		{nil, 0, 0},
		{[]int{-3}, 0, 0},
		{[]int{3, -4, 2}, 5, 5},
		{[]int{1}, 1, 5},
		{[]int{5}, 5, 5},
		{[]int{4, 2}, 6, 6},
		{[]int{-7}, 0, 6},
		{[]int{2, 2}, 4, 6},
		{[]int{most, 1}, most, most},
		{nil, 0, most},
		{[]int{most - 1}, most - 1, most},
		{[]int{greatest}, most, most},
		{[]int{0}, 0, most},
	} {
		if n := m.Tick(c.draws...); n != c.last {
			t.Errorf("Tick(%v) = %d, want %d", c.draws, n, c.last)
		}
		if want := (book{last: c.last, high: c.high, ticks: i + 1}); told(m) != want {
			t.Errorf("behind tick %d: %+v, want %+v", i, told(m), want)
		}
	}
}

func TestEachDrawWithEachOther(t *testing.T) {
	for _, a := range some {
		for _, b := range some {
			follow(t, []int{a, b}, []int{b}, []int{a}, nil, []int{b, a})
			for _, c := range some {
				follow(t, []int{a, b, c})
				follow(t, []int{a}, []int{b}, []int{c})
			}
		}
	}
}

func TestEachRowOfTicks(t *testing.T) {
	kinds := [][]int{nil, {-5}, {0}, {1}, {2, -9}, {1, 2}, {-1, 3, 1}, {most - 1}, {most, 3}}
	for _, a := range kinds {
		for _, b := range kinds {
			for _, c := range kinds {
				for _, d := range kinds {
					follow(t, a, b, c, d)
				}
			}
		}
	}
}

func TestALongWay(t *testing.T) {
	var ticks [][]int
	var draws []int
	mixed(20000, func(n int) {
		if draws = append(draws, n); n&3 == 0 {
			ticks = append(ticks, draws)
			draws = nil
		}
	})
	follow(t, ticks...)
}

func TestManyTicks(t *testing.T) {
	const times = 1<<17 + 3
	m := meter.New()
	for i := range times {
		if n := m.Tick(i, -1); n != i || m.Ticks() != i+1 {
			t.Fatalf("Tick(%d, -1) = %d; Ticks %d", i, n, m.Ticks())
		}
	}
	for i := range times {
		if m.Tick(); m.Ticks() != times+i+1 {
			t.Fatalf("Ticks %d behind %d", m.Ticks(), times+i+1)
		}
	}
	if told(m) != (book{last: 0, high: times - 1, ticks: 2 * times}) {
		t.Errorf("at the end: %+v", told(m))
	}
}

func TestManyDraws(t *testing.T) {
	l := make([]int, 1<<20)
	for i := range l {
		l[i] = 1 << 20
	}
	m := meter.New()
	if n := m.Tick(l[1:]...); n != most-1<<20 {
		t.Errorf("one less than 2^20 times 2^20: %d", n)
	}
	if n := m.Tick(l...); n != most {
		t.Errorf("2^20 times 2^20: %d", n)
	}
	if n := m.Tick(append(l, 1, -1)...); n != most {
		t.Errorf("2^20 times 2^20, and 1, and -1: %d", n)
	}
	if told(m) != (book{last: most, high: most, ticks: 3}) {
		t.Errorf("then: %+v", told(m))
	}
}

func TestOfNil(t *testing.T) {
	var m *meter.Meter
	for _, draws := range [][]int{nil, {4}, {-4}, {3, -4, 2}, {most, most}, {greatest}, {least}} {
		if n := m.Tick(draws...); n != 0 {
			t.Errorf("of nil: Tick(%v) = %d", draws, n)
		}
		if told(m) != (book{}) {
			t.Errorf("of nil: %+v", told(m))
		}
	}
}

func TestAskingChangesNothing(t *testing.T) {
	m := meter.New()
	m.Tick(9)
	m.Tick(4)
	for range 3 {
		if m.Last() != 4 || m.High() != 9 || m.Ticks() != 2 {
			t.Errorf("%+v", told(m))
		}
	}
}

func TestEachMeterHasItsOwn(t *testing.T) {
	a, b := meter.New(), meter.New()
	a.Tick(9)
	a.Tick(3)
	if told(b) != (book{}) {
		t.Errorf("the other one: %+v", told(b))
	}
	b.Tick(5)
	if told(a) != (book{last: 3, high: 9, ticks: 2}) || told(b) != (book{last: 5, high: 5, ticks: 1}) {
		t.Errorf("%+v, and the other one %+v", told(a), told(b))
	}
	if c := meter.New(); told(c) != (book{}) {
		t.Errorf("a new one: %+v", told(c))
	}
}

func TestDrawsAreNotChangedAndNotKept(t *testing.T) {
	l := []int{3, -4, greatest, least, 2, most + 1}
	kept := slices.Clone(l)
	m := meter.New()
	m.Tick(l...)
	if !slices.Equal(l, kept) {
		t.Errorf("Tick changed %v to %v", kept, l)
	}
	m.Tick(l[:2]...)
	clear(l)
	if told(m) != (book{last: 3, high: most, ticks: 2}) {
		t.Errorf("behind a change of the list: %+v", told(m))
	}
	// Nor what stands behind the draws in the memory that they lie in.
	l = []int{5, 6, 7, 8}
	if n := m.Tick(l[:2]...); n != 11 || !slices.Equal(l, []int{5, 6, 7, 8}) {
		t.Errorf("Tick = %d, of a part of %v", n, l)
	}
}

// P11.2

func TestHighIsLastAtLeast(t *testing.T) {
	m := meter.New()
	if m.High() < m.Last() {
		t.Errorf("at first: %+v", told(m))
	}
	ever := 0
	var draws []int
	mixed(20000, func(n int) {
		if draws = append(draws, n>>8); n&3 != 0 {
			return
		}
		ever = max(ever, m.Tick(draws...))
		draws = nil
		if m.High() < m.Last() || m.High() != ever {
			t.Fatalf("%+v, the most was %d", told(m), ever)
		}
	})
}

// eachOrder goes through all orders of draws.
func eachOrder(l []int, f func(l []int)) {
	var place func(at int)
	place = func(at int) {
		if at == len(l) {
			f(l)
			return
		}
		for i := at; i < len(l); i++ {
			l[at], l[i] = l[i], l[at]
			place(at + 1)
			l[at], l[i] = l[i], l[at]
		}
	}
	place(0)
}

func TestInEachOrderTheSame(t *testing.T) {
	for _, l := range [][]int{
		{1, 2, 3, 4, 5, 6},
		{3, -4, 2, 0, -1, 9},
		{most - 3, 1, 1, 1, -1, -most},
		{most - 3, 1, 1, 2, -1, -2},
		{most, 5, -5, 9, -9, 0},
		{most + 1, -1, 4, -most, 2, -2},
		{greatest, least, 1, -1, greatest, 3},
		{least, -1, -2, 0, -3, -most},
	} {
		want := sumOf(l)
		m := meter.New()
		eachOrder(l, func(l []int) {
			if n := m.Tick(l...); n != want || m.Last() != want || m.High() != want {
				t.Errorf("Tick(%v) = %d, then %+v, want %d", l, n, told(m), want)
			}
		})
	}
}

func FuzzAsTheWordsSay(f *testing.F) {
	f.Add(3, -4, 2, 0, 1)
	f.Add(most, 1, -1, most, least)
	f.Add(greatest, greatest, least, -most, 7)
	f.Fuzz(func(t *testing.T, a, b, c, d, e int) {
		follow(t, []int{a, b, c}, []int{d}, []int{e, a}, nil, []int{c, b, a}, []int{e, d, c, b, a})
	})
}
