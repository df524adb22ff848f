package sat_test

import (
	"math"
	"math/big"
	"slices"
	"testing"

	"paternoster/sat"
)

const most = 1099511627776

// edges are numbers at, and about, what the words name, and where numbers of 64 bits wrap round.
var edges = []int64{
	0, 1, 2, 3, 7, 255, 1000,
	1<<20 - 1, 1 << 20, 1<<20 + 1, 1<<21 - 1, 1 << 21, 1<<21 + 1,
	1<<31 - 1, 1 << 31, 1<<32 - 1, 1 << 32, 1<<32 + 1,
	most/3 - 1, most / 3, most/3 + 1, most/2 - 1, most / 2, most/2 + 1,
	most - 2, most - 1, most, most + 1, most + 2, 2*most - 1, 2 * most, 2*most + 1,
	1 << 62, 1<<62 + 1, math.MaxInt64 - most, math.MaxInt64 - 1, math.MaxInt64,
}

// both is the edges, those below 0 as well.
func both() []int64 {
	l := []int64{math.MinInt64}
	for _, n := range edges {
		l = append(l, n, -n)
	}
	return l
}

// mixed goes through numbers of all lengths, above and below 0, always the same ones.
func mixed(times int, f func(a, b int64)) {
	x := uint64(88172645463325252)
	next := func() int64 {
		x ^= x << 13
		x ^= x >> 7
		x ^= x << 17
		return int64(x) >> ((x >> 3) % 64)
	}
	for range times {
		f(next(), next())
	}
}

// bounded is a number as the words bound it, and whether it met a bound; told by numbers that have no end.
func bounded(n *big.Int) (*big.Int, bool) {
	top := big.NewInt(most)
	if n.Cmp(top) > 0 {
		return top, true
	}
	low := big.NewInt(-most)
	if n.Cmp(low) < 0 {
		return low, true
	}
	return n, false
}

// told is what a step comes to by the promise's words.
func told(a, b int64, step func(z, x, y *big.Int) *big.Int) (int64, bool) {
	x, one := bounded(big.NewInt(a))
	y, two := bounded(big.NewInt(b))
	z, three := bounded(step(new(big.Int), x, y))
	return z.Int64(), one || two || three
}

type call struct {
	name string
	do   func(a, b int64) (int64, bool)
	step func(z, x, y *big.Int) *big.Int
}

func calls() []call {
	return []call{
		{"Add", sat.Add, (*big.Int).Add},
		{"Mul", sat.Mul, (*big.Int).Mul},
	}
}

// hold tells of each call that is not as the words say.
func hold(t *testing.T, a, b int64) {
	t.Helper()
	for _, c := range calls() {
		n, met := c.do(a, b)
		if want, is := told(a, b, c.step); n != want || met != is {
			t.Errorf("%s(%d, %d) = %d, %v, want %d, %v", c.name, a, b, n, met, want, is)
		}
		if m, is := c.do(b, a); m != n || is != met {
			t.Errorf("%s(%d, %d) = %d, %v, but the other way round %d, %v", c.name, a, b, n, met, m, is)
		}
	}
}

func TestMost(t *testing.T) {
	if sat.Most != most {
		t.Errorf("Most = %d", int64(sat.Most))
	}
}

// P3.1

func TestAdd(t *testing.T) {
	for _, c := range []struct {
		a, b, want int64
		met        bool
	}{
		{0, 0, 0, false},
		{2, 3, 5, false},
		{-2, -3, -5, false},
		{5, -8, -3, false},
		{most, 0, most, false},
		{-most, 0, -most, false},
		{most - 1, 1, most, false},
		{1 - most, -1, -most, false},
		{most / 2, most / 2, most, false},
		{most, -most, 0, false},
		{most, -1, most - 1, false},
		{most, 1, most, true},
		{-most, -1, -most, true},
		{most, most, most, true},
		{-most, -most, -most, true},
		{most/2 + 1, most / 2, most, true},
		// A number that is bounded itself: with what is taken off behind, the sum lies within again.
		{most + 1, 0, most, true},
		{most + 1, -1, most - 1, true},
		{-most - 1, 1, 1 - most, true},
		{most + 7, -most - 7, 0, true},
		{most + 5, -most, 0, true},
		{math.MaxInt64, math.MaxInt64, most, true},
		{math.MinInt64, math.MinInt64, -most, true},
		{math.MaxInt64, math.MinInt64, 0, true},
		{math.MinInt64, -1, -most, true},
		{math.MinInt64, most, 0, true},
		{math.MaxInt64, -3, most - 3, true},
	} {
		if n, met := sat.Add(c.a, c.b); n != c.want || met != c.met {
			t.Errorf("Add(%d, %d) = %d, %v, want %d, %v", c.a, c.b, n, met, c.want, c.met)
		}
	}
}

func TestMul(t *testing.T) {
	for _, c := range []struct {
		a, b, want int64
		met        bool
	}{
		{0, 0, 0, false},
		{2, 3, 6, false},
		{-2, 3, -6, false},
		{-2, -3, 6, false},
		{0, most, 0, false},
		{0, -most, 0, false},
		{1, most, most, false},
		{-1, most, -most, false},
		{-1, -most, most, false},
		{1 << 20, 1 << 20, most, false},
		{-1 << 20, 1 << 20, -most, false},
		{1<<20 + 1, 1<<20 - 1, most - 1, false},
		{1<<20 + 1, 1 << 20, most, true},
		{-1<<20 - 1, 1 << 20, -most, true},
		{3, most / 3, most - 1, false},
		{3, most/3 + 1, most, true},
		{-3, most/3 + 1, -most, true},
		{2, most / 2, most, false},
		{2, most/2 + 1, most, true},
		// Products that wrap round to 0, or to a number of the other side, or within the bounds.
		{1 << 32, 1 << 32, most, true},
		{1 << 32, -1 << 32, -most, true},
		{most, 1 << 24, most, true},
		{most, 1 << 23, most, true},
		{-most, 1 << 24, -most, true},
		{most, most, most, true},
		{-most, most, -most, true},
		{-most, -most, most, true},
		{1<<32 + 1, 1<<32 - 1, most, true},
		// A number that is bounded itself, though nothing is left of it.
		{most + 1, 0, 0, true},
		{0, -most - 1, 0, true},
		{math.MinInt64, 0, 0, true},
		{0, math.MaxInt64, 0, true},
		{most + 1, 1, most, true},
		{most + 1, -1, -most, true},
		{math.MinInt64, -1, most, true},
		{math.MinInt64, 1, -most, true},
		{math.MinInt64, math.MinInt64, most, true},
		{math.MaxInt64, math.MaxInt64, most, true},
		{math.MaxInt64, math.MinInt64, -most, true},
		{math.MaxInt64, 2, most, true},
	} {
		if n, met := sat.Mul(c.a, c.b); n != c.want || met != c.met {
			t.Errorf("Mul(%d, %d) = %d, %v, want %d, %v", c.a, c.b, n, met, c.want, c.met)
		}
	}
}

func TestEachEdgeWithEachOther(t *testing.T) {
	for _, a := range both() {
		for _, b := range both() {
			hold(t, a, b)
		}
	}
}

func TestNumbersOfAllLengths(t *testing.T) {
	mixed(20000, func(a, b int64) { hold(t, a, b) })
}

func TestProductsAboutTheBound(t *testing.T) {
	// The last number whose product with another one fits, and its neighbours.
	for _, a := range both() {
		if a == 0 {
			continue
		}
		for d := int64(-2); d <= 2; d++ {
			hold(t, a, most/a+d)
			hold(t, a, -(most/a)+d)
		}
	}
}

// P3.2

func TestSum(t *testing.T) {
	for _, c := range []struct {
		l    []int64
		want int64
		met  bool
	}{
		{nil, 0, false},
		{[]int64{}, 0, false},
		{[]int64{0}, 0, false},
		{[]int64{7}, 7, false},
		{[]int64{2, 3}, 5, false},
		{[]int64{2, -3, 4, -5}, -2, false},
		{[]int64{most}, most, false},
		{[]int64{-most}, -most, false},
		{[]int64{most + 1}, most, true},
		{[]int64{-most - 1}, -most, true},
		{[]int64{math.MinInt64}, -most, true},
		{[]int64{most, -most, most}, most, false},
		{[]int64{most, 5, -5}, most - 5, true},
		{[]int64{most, -5, 5}, most, false},
		{[]int64{-5, most, 5}, most, false},
		{[]int64{-most, -5, 5}, 5 - most, true},
		{[]int64{1, most + 1, -1}, most - 1, true},
		{[]int64{most + 1, -most, 0, 0}, 0, true},
		{[]int64{most, 1, -most, -most, -1, most}, 0, true},
		{[]int64{0, 0, most - 1, 1, 0}, most, false},
		{[]int64{0, 0, most - 1, 1, 1}, most, true},
		{[]int64{1, 2, math.MaxInt64}, most, true},
		{[]int64{math.MaxInt64, math.MaxInt64, math.MinInt64}, 0, true},
		{[]int64{math.MaxInt64, math.MinInt64, math.MinInt64, 1}, 1 - most, true},
	} {
		if n, met := sat.Sum(c.l...); n != c.want || met != c.met {
			t.Errorf("Sum(%v) = %d, %v, want %d, %v", c.l, n, met, c.want, c.met)
		}
	}
	if n, met := sat.Sum(); n != 0 || met {
		t.Errorf("Sum() = %d, %v", n, met)
	}
}

// byAdd is the sum by the promise's words.
func byAdd(l []int64) (int64, bool) {
	var sum int64
	some := false
	for _, n := range l {
		so, met := sat.Add(sum, n)
		sum, some = so, some || met
	}
	return sum, some
}

func TestSumIsAddByAdd(t *testing.T) {
	ends := []int64{0, 1, -1, most - 1, most, -most, 1 - most, most + 1, -most - 1, math.MaxInt64, math.MinInt64}
	for _, a := range ends {
		for _, b := range ends {
			for _, c := range ends {
				for _, d := range ends {
					l := []int64{a, b, c, d}
					n, met := sat.Sum(l...)
					if want, is := byAdd(l); n != want || met != is {
						t.Errorf("Sum(%v) = %d, %v, want %d, %v", l, n, met, want, is)
					}
				}
			}
		}
	}
}

func TestSumOfMany(t *testing.T) {
	l := make([]int64, 1<<20)
	for i := range l {
		l[i] = 1 << 20
	}
	if n, met := sat.Sum(l...); n != most || met {
		t.Errorf("Sum of 2^20 times 2^20 = %d, %v", n, met)
	}
	if n, met := sat.Sum(append(l, 1)...); n != most || !met {
		t.Errorf("Sum of 2^20 times 2^20, and 1 = %d, %v", n, met)
	}
	if n, met := sat.Sum(append(l, -1, 1)...); n != most || met {
		t.Errorf("Sum of 2^20 times 2^20, -1, and 1 = %d, %v", n, met)
	}
}

func TestSumLeavesItsNumbers(t *testing.T) {
	l := []int64{most + 9, -3, math.MinInt64, 4}
	kept := slices.Clone(l)
	first, met := sat.Sum(l...)
	if !slices.Equal(l, kept) {
		t.Errorf("Sum changed %v to %v", kept, l)
	}
	// That a bound was met is told of one call, not of the next ones.
	if n, is := sat.Sum(1, 2); n != 3 || is {
		t.Errorf("Sum(1, 2) = %d, %v, behind one that met a bound", n, is)
	}
	if n, is := sat.Sum(l...); n != first || is != met {
		t.Errorf("Sum(%v) = %d, %v, then %d, %v", l, first, met, n, is)
	}
}

// P3.3

// eachOrder goes through all orders of numbers.
func eachOrder(l []int64, f func(l []int64)) {
	var place func(at int)
	place = func(at int) {
		if at == len(l) {
			f(l)
			return
		}
		for i := at; i < len(l); i++ {
			l[at], l[i] = l[i], l[at]
			place(at + 1)
			l[at], l[i] = l[i], l[at]
		}
	}
	place(0)
}

// whole is the sum of whole numbers, and whether all that it comes to on the way, and each number, lies within the bounds.
func whole(l []int64) (*big.Int, bool) {
	sum := new(big.Int)
	in := true
	for _, n := range l {
		sum.Add(sum, big.NewInt(n))
		_, one := bounded(big.NewInt(n))
		_, two := bounded(sum)
		in = in && !one && !two
	}
	return sum, in
}

func TestWholeNumbersInEachOrder(t *testing.T) {
	for _, l := range [][]int64{
		{1, -2, 3, -4, 5},
		{most, -most, 1, -1, 0},
		{most / 2, most / 2, -1, 1, -most},
		{most - 3, 1, 1, 1, -most},
		{most, 5, -5, 9, -9},
		{most + 1, -1, 4, -most, 2},
		{math.MaxInt64, math.MinInt64, 1, -1, 3},
	} {
		eachOrder(l, func(l []int64) {
			n, met := sat.Sum(l...)
			want, in := whole(l)
			if met == in {
				t.Errorf("Sum(%v): a bound was met: %v", l, met)
			}
			if !met && want.Cmp(big.NewInt(n)) != 0 {
				t.Errorf("Sum(%v) = %d, want %v", l, n, want)
			}
		})
	}
}

func TestWholeNumbersWhereNoBoundIsMet(t *testing.T) {
	some := 0
	mixed(20000, func(a, b int64) {
		if n, met := sat.Add(a, b); !met {
			some++
			if n != a+b {
				t.Errorf("Add(%d, %d) = %d", a, b, n)
			}
		}
		if n, met := sat.Mul(a, b); !met {
			some++
			if new(big.Int).Mul(big.NewInt(a), big.NewInt(b)).Cmp(big.NewInt(n)) != 0 {
				t.Errorf("Mul(%d, %d) = %d", a, b, n)
			}
		}
	})
	if some < 10000 {
		t.Errorf("only %d calls met no bound", some)
	}
}

func FuzzAsTheWordsSay(f *testing.F) {
	f.Add(int64(most), int64(1))
	f.Add(int64(1<<32), int64(1<<32))
	f.Add(int64(math.MinInt64), int64(-1))
	f.Fuzz(func(t *testing.T, a, b int64) { hold(t, a, b) })
}
