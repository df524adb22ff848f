package cell_test

import (
	"math"
	"math/big"
	"testing"

	"paternoster/cell"
)

const (
	least    = math.MinInt
	greatest = math.MaxInt
	maxFull  = 1048576
	most     = 1099511627776 // sat's bound
)

// told are batteries of which all is told: all small ones, and some at, and about, the ends of greater ones.
func told() []cell.Cell {
	var l []cell.Cell
	for full := 0; full <= 24; full++ {
		for have := 0; have <= full; have++ {
			l = append(l, cell.Cell{Have: have, Full: full})
		}
	}
	for _, full := range []int{100, 255, 256, 257, 65535, 65536, 65537, maxFull - 1, maxFull} {
		for _, have := range []int{0, 1, 2, full / 2, full/2 + 1, full - 2, full - 1, full} {
			l = append(l, cell.Cell{Have: have, Full: full})
		}
	}
	return l
}

// amounts are what may be asked for of a battery: all that is small, what is about its ends, and what is far beyond both.
func amounts(c cell.Cell) []int {
	l := []int{
		least, least + 1, -most - 1, -most, 1 - most, -1 << 32, -maxFull - 1, -maxFull, -1000, -256,
		255, 256, 257, 1000, 65535, 65536, 65537, maxFull - 1, maxFull, maxFull + 1, 2*maxFull + 1,
		1<<31 - 1, 1 << 31, 1<<32 - 1, 1 << 32, 1<<32 + 1, most - maxFull, most - 1, most, most + 1,
		1 << 62, greatest - maxFull, greatest - 1, greatest,
	}
	for n := -26; n <= 26; n++ {
		l = append(l, n)
	}
	for by := -2; by <= 2; by++ {
		l = append(l, c.Have+by, c.Full+by, c.Full-c.Have+by, -c.Have+by, -c.Full+by, c.Have-c.Full+by)
		// Numbers that would be of the battery's size, were more than 32 or 40 bits dropped.
		l = append(l, 1<<32+c.Have+by, 1<<40+c.Have+by, 1<<32-c.Have+by, greatest-c.Have-2+by)
	}
	return l
}

// odd are batteries of which nothing is told.
func odd() []cell.Cell {
	ends := []int{least, least + 1, -most - 1, -most, -maxFull, -9, -1, 0, 1, 9, maxFull, maxFull + 1, most, most + 1, greatest - 1, greatest}
	var l []cell.Cell
	for _, have := range ends {
		for _, full := range ends {
			if have < 0 || have > full || full > maxFull {
				l = append(l, cell.Cell{Have: have, Full: full})
			}
		}
	}
	return l
}

// each goes through all batteries of which all is told, and what may be asked of each.
func each(f func(c cell.Cell, n int)) {
	for _, c := range told() {
		for _, n := range amounts(c) {
			f(c, n)
		}
	}
}

// counted is n, as the words count it; a number that has no end.
func counted(n int) *big.Int {
	if n < 0 {
		return new(big.Int)
	}
	return big.NewInt(int64(n))
}

// canOf is Can, as the promise's words tell it.
func canOf(c cell.Cell, n int) bool { return counted(n).Cmp(big.NewInt(int64(c.Have))) <= 0 }

// spendOf is Spend, as the promise's words tell it.
func spendOf(c cell.Cell, n int) (cell.Cell, bool) {
	if !canOf(c, n) {
		return c, false
	}
	left := new(big.Int).Sub(big.NewInt(int64(c.Have)), counted(n))
	return cell.Cell{Have: int(left.Int64()), Full: c.Full}, true
}

// fillOf is Fill, as the promise's words tell it.
func fillOf(c cell.Cell, n int) cell.Cell {
	sum := new(big.Int).Add(big.NewInt(int64(c.Have)), counted(n))
	if sum.Cmp(big.NewInt(int64(c.Full))) > 0 {
		return cell.Cell{Have: c.Full, Full: c.Full}
	}
	return cell.Cell{Have: int(sum.Int64()), Full: c.Full}
}

// P9.1

func TestCan(t *testing.T) {
	for _, c := range []struct {
		have, full, n int
		want          bool
	}{
		{3, 5, 0, true}, {3, 5, 1, true}, {3, 5, 2, true}, {3, 5, 3, true},
		{3, 5, 4, false}, {3, 5, 5, false}, {3, 5, 6, false},
		{0, 5, 0, true}, {0, 5, 1, false}, {5, 5, 5, true}, {5, 5, 6, false},
		{0, 0, 0, true}, {0, 0, 1, false}, {1, 1, 1, true}, {1, 1, 2, false},
		{maxFull, maxFull, maxFull, true}, {maxFull, maxFull, maxFull + 1, false},
		{maxFull - 1, maxFull, maxFull - 1, true}, {maxFull - 1, maxFull, maxFull, false},
		// An n below 0 is as 0.
		{3, 5, -1, true}, {0, 5, -1, true}, {0, 0, -1, true}, {5, 5, -6, true}, {0, 0, least, true}, {maxFull, maxFull, least, true},
		{0, 0, greatest, false}, {maxFull, maxFull, greatest, false}, {3, 5, 1 << 32, false}, {3, 5, 1<<40 + 1, false},
	} {
		if b := (cell.Cell{Have: c.have, Full: c.full}); b.Can(c.n) != c.want {
			t.Errorf("%+v: Can(%d) = %t", b, c.n, !c.want)
		}
	}
}

func TestSpend(t *testing.T) {
	for _, c := range []struct {
		have, full, n, want int
		is                  bool
	}{
		// The chapter's example.
		{3, 5, 4, 3, false},
		{3, 5, 0, 3, true}, {3, 5, 1, 2, true}, {3, 5, 2, 1, true}, {3, 5, 3, 0, true},
		{3, 5, 5, 3, false}, {3, 5, 6, 3, false}, {3, 5, 7, 3, false},
		{0, 5, 0, 0, true}, {0, 5, 1, 0, false}, {5, 5, 5, 0, true}, {5, 5, 6, 5, false},
		{0, 0, 0, 0, true}, {0, 0, 1, 0, false}, {1, 1, 1, 0, true}, {1, 1, 2, 1, false},
		{maxFull, maxFull, 1, maxFull - 1, true}, {maxFull, maxFull, maxFull, 0, true}, {maxFull, maxFull, maxFull + 1, maxFull, false},
		{maxFull - 1, maxFull, maxFull, maxFull - 1, false}, {1, maxFull, 2, 1, false},
		// An n below 0 is as 0: it fills nothing.
		{3, 5, -1, 3, true}, {3, 5, -9, 3, true}, {0, 5, -1, 0, true}, {5, 5, -1, 5, true}, {0, 0, -1, 0, true}, {3, 5, least, 3, true}, {maxFull, maxFull, least, maxFull, true},
		{3, 5, greatest, 3, false}, {0, 0, greatest, 0, false}, {maxFull, maxFull, greatest, maxFull, false}, {3, 5, 1<<32 + 1, 3, false},
	} {
		b := cell.Cell{Have: c.have, Full: c.full}
		want := cell.Cell{Have: c.want, Full: c.full}
		if x, is := b.Spend(c.n); x != want || is != c.is {
			t.Errorf("%+v: Spend(%d) = %+v, %t, want %+v, %t", b, c.n, x, is, want, c.is)
		}
	}
}

func TestFill(t *testing.T) {
	for _, c := range []struct{ have, full, n, want int }{
		// The chapter's example.
		{3, 5, 4, 5},
		{3, 5, 0, 3}, {3, 5, 1, 4}, {3, 5, 2, 5}, {3, 5, 3, 5}, {3, 5, 5, 5},
		{0, 5, 0, 0}, {0, 5, 1, 1}, {0, 5, 4, 4}, {0, 5, 5, 5}, {0, 5, 6, 5}, {5, 5, 0, 5}, {5, 5, 1, 5},
		{0, 0, 0, 0}, {0, 0, 1, 0}, {0, 1, 1, 1}, {1, 1, 1, 1},
		{0, maxFull, maxFull, maxFull}, {0, maxFull, maxFull - 1, maxFull - 1}, {0, maxFull, maxFull + 1, maxFull},
		{maxFull - 1, maxFull, 1, maxFull}, {maxFull, maxFull, 1, maxFull}, {maxFull, maxFull, maxFull, maxFull},
		// An n below 0 is as 0: it spends nothing.
		{3, 5, -1, 3}, {3, 5, -3, 3}, {3, 5, -9, 3}, {0, 5, -1, 0}, {5, 5, -1, 5}, {0, 0, -1, 0}, {3, 5, least, 3}, {maxFull, maxFull, least, maxFull},
		// However great n is, the sum doesn't wrap round.
		{3, 5, greatest, 5}, {5, 5, greatest, 5}, {0, 0, greatest, 0}, {maxFull, maxFull, greatest, maxFull}, {1, maxFull, greatest, maxFull},
		{3, 5, 1 << 32, 5}, {3, 5, 1<<32 - 3, 5}, {3, 5, most, 5}, {3, 5, most + 1, 5}, {3, 5, 1 << 62, 5},
	} {
		b := cell.Cell{Have: c.have, Full: c.full}
		if x, want := b.Fill(c.n), (cell.Cell{Have: c.want, Full: c.full}); x != want {
			t.Errorf("%+v: Fill(%d) = %+v, want %+v", b, c.n, x, want)
		}
	}
}

func TestAsTheWordsSay(t *testing.T) {
	each(func(c cell.Cell, n int) {
		if can := c.Can(n); can != canOf(c, n) {
			t.Errorf("%+v: Can(%d) = %t", c, n, can)
		}
		want, may := spendOf(c, n)
		if x, is := c.Spend(n); x != want || is != may {
			t.Errorf("%+v: Spend(%d) = %+v, %t, want %+v, %t", c, n, x, is, want, may)
		}
		want = fillOf(c, n)
		if x := c.Fill(n); x != want {
			t.Errorf("%+v: Fill(%d) = %+v, want %+v", c, n, x, want)
		}
	})
}

func TestOfEachGreatOne(t *testing.T) {
	// Each Have of the greatest battery, and what is just enough, and just too much.
	for have := 0; have <= maxFull; have++ {
		c := cell.Cell{Have: have, Full: maxFull}
		if !c.Can(have) || c.Can(have+1) {
			t.Fatalf("%+v: Can(%d) %t, Can(%d) %t", c, have, c.Can(have), have+1, c.Can(have+1))
		}
		if x, is := c.Spend(have); !is || x != (cell.Cell{Have: 0, Full: maxFull}) {
			t.Fatalf("%+v: Spend(%d) = %+v, %t", c, have, x, is)
		}
		if x, is := c.Spend(have + 1); is || x != c {
			t.Fatalf("%+v: Spend(%d) = %+v, %t", c, have+1, x, is)
		}
		if x := c.Fill(maxFull - have); x.Have != maxFull || x.Full != maxFull {
			t.Fatalf("%+v: Fill(%d) = %+v", c, maxFull-have, x)
		}
		if x := c.Fill(1); x != (cell.Cell{Have: min(have+1, maxFull), Full: maxFull}) {
			t.Fatalf("%+v: Fill(1) = %+v", c, x)
		}
	}
}

func TestNothingElseIsChanged(t *testing.T) {
	c := cell.Cell{Have: 3, Full: 5}
	ahead := c
	for range 3 {
		if x, is := c.Spend(2); !is || x != (cell.Cell{Have: 1, Full: 5}) {
			t.Errorf("Spend(2) = %+v, %t", x, is)
		}
		if x := c.Fill(1); x != (cell.Cell{Have: 4, Full: 5}) {
			t.Errorf("Fill(1) = %+v", x)
		}
		if !c.Can(3) || c.Can(4) {
			t.Errorf("Can(3) %t, Can(4) %t", c.Can(3), c.Can(4))
		}
		if c != ahead {
			t.Fatalf("the battery itself is %+v", c)
		}
	}
}

func TestBatteriesOfWhichNothingIsTold(t *testing.T) {
	// Some answer; but Spend goes by Can, what can't be spent changes nothing, and no battery gets another Full.
	for _, c := range odd() {
		for _, n := range amounts(c) {
			x, is := c.Spend(n)
			if is != c.Can(n) || x.Full != c.Full || !is && x != c {
				t.Errorf("%+v: Can(%d) %t, Spend(%d) = %+v, %t", c, n, c.Can(n), n, x, is)
			}
			if x := c.Fill(n); x.Full != c.Full {
				t.Errorf("%+v: Fill(%d) = %+v", c, n, x)
			}
		}
	}
}

// P9.2

// within tells whether a battery has nothing at least, and Full at most.
func within(c cell.Cell) bool { return 0 <= c.Have && c.Have <= c.Full }

func TestNeverMoreThanFullNorLessThanNothing(t *testing.T) {
	each(func(c cell.Cell, n int) {
		if x, _ := c.Spend(n); !within(x) || x.Full != c.Full {
			t.Errorf("%+v: Spend(%d) = %+v", c, n, x)
		}
		if x := c.Fill(n); !within(x) || x.Full != c.Full {
			t.Errorf("%+v: Fill(%d) = %+v", c, n, x)
		}
	})
}

// book is what was in a battery at first, what was put into it, and what was taken out.
type book struct {
	first, filled, spent int
	wrong                bool // more was put in than was handed in, or less than nothing
}

// filling is a battery filled, which is written down.
func (b *book) filling(c cell.Cell, n int) cell.Cell {
	x := c.Fill(n)
	more := x.Have - c.Have
	b.filled += more
	b.wrong = b.wrong || more < 0 || more > max(0, n)
	return x
}

// spending is a battery that has spent, if it can, which is written down.
func (b *book) spending(c cell.Cell, n int) cell.Cell {
	x, is := c.Spend(n)
	if is {
		b.spent += max(0, n)
	}
	return x
}

// holds tells whether a battery has just what it must have by what is written down.
func (b *book) holds(c cell.Cell) bool {
	return !b.wrong && within(c) && b.spent <= b.first+b.filled && c.Have == b.first+b.filled-b.spent
}

func TestWhatIsSpentWasFilledOrThere(t *testing.T) {
	// Each row of four steps, of these amounts, filled or spent.
	some := []int{-4, 0, 1, 3, 7}
	kinds := 2 * len(some)
	rows := kinds * kinds * kinds * kinds
	for full := 0; full <= 8; full++ {
		for have := 0; have <= full; have++ {
			for row := range rows {
				c := cell.Cell{Have: have, Full: full}
				b := book{first: have}
				for n := row + rows; n > 1; n /= kinds {
					if amount := some[n%kinds/2]; n%2 == 0 {
						c = b.filling(c, amount)
					} else {
						c = b.spending(c, amount)
					}
					if !b.holds(c) || c.Full != full {
						t.Fatalf("%d of %d, steps %d: %+v, %+v", have, full, row, c, b)
					}
				}
			}
		}
	}
}

// mixed goes through numbers of all lengths, above and below 0, always the same ones.
func mixed(times int, f func(n int)) {
	x := uint64(88172645463325252)
	for range times {
		x ^= x << 13
		x ^= x >> 7
		x ^= x << 17
		f(int(int64(x) >> (x % 64)))
	}
}

func TestALongWay(t *testing.T) {
	for _, first := range told() {
		c, b := first, book{first: first.Have}
		mixed(2000, func(n int) {
			if n&3 == 0 {
				c = b.filling(c, n>>2)
			} else {
				c = b.spending(c, n>>2)
			}
			if !b.holds(c) || c.Full != first.Full {
				t.Fatalf("%+v: %+v, %+v behind %d", first, c, b, n)
			}
		})
	}
}

func TestAsManyTicksAsItTakes(t *testing.T) {
	// Filled by 1 a tick, and spent by 1, no tick is lost.
	for full := range 200 {
		c := cell.Cell{Have: 0, Full: full}
		for tick := range full {
			if c = c.Fill(1); c.Have != tick+1 {
				t.Errorf("Full %d: %+v after %d ticks", full, c, tick+1)
			}
		}
		if x := c.Fill(1); x != c {
			t.Errorf("%+v: Fill(1) = %+v", c, x)
		}
		ticks := 0
		for c.Can(1) && ticks <= full {
			c, _ = c.Spend(1)
			ticks++
		}
		if c.Have != 0 || ticks != full {
			t.Errorf("%+v after %d ticks", c, ticks)
		}
	}
}

func FuzzAsTheWordsSay(f *testing.F) {
	f.Add(3, 5, 4)
	f.Add(3, 5, -9)
	f.Add(maxFull, maxFull, greatest)
	f.Add(greatest, least, greatest)
	f.Fuzz(func(t *testing.T, have, full, n int) {
		c := cell.Cell{Have: have, Full: full}
		can, filled := c.Can(n), c.Fill(n)
		spent, is := c.Spend(n)
		if have < 0 || have > full || full > maxFull {
			return
		}
		want, may := spendOf(c, n)
		if can != may || is != may || spent != want || filled != fillOf(c, n) {
			t.Errorf("%+v: Can(%d) %t, Spend %+v, %t, Fill %+v", c, n, can, spent, is, filled)
		}
	})
}
