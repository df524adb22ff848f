package conf_test

import (
	"math"
	"reflect"
	"slices"
	"testing"

	"paternoster/conf"
	"paternoster/rates"
	"paternoster/sat"
)

const (
	least    = math.MinInt
	greatest = math.MaxInt
)

// banks are banks of so many cars, which draw nothing.
func banks(cars ...int) []conf.Bank {
	var l []conf.Bank
	for _, n := range cars {
		l = append(l, conf.Bank{Cars: n})
	}
	return l
}

// inOrder is the cars from 0 on.
func inOrder(cars int) []int {
	var l []int
	for car := range cars {
		l = append(l, car)
	}
	return l
}

// backwards is the cars down to 0.
func backwards(cars int) []int {
	l := inOrder(cars)
	slices.Reverse(l)
	return l
}

// example is the group of the chapter's example; what that doesn't tell is of its own.
func example() conf.Conf {
	return conf.Conf{Banks: banks(2), Floors: 3, Home: 1, Order: []int{1, 0}, Speed: 2, Width: 2, Dwell: 4, Good: 5, Dead: 1, Lag: 0, Turn: 7, Cost: 3, Full: 100}
}

// mixed is a group of banks of many sizes; no two of its numbers are alike.
func mixed() conf.Conf {
	l := banks(3, 1, 8, 2)
	l[1].Rates = rates.Rates{Idle: 1, Move: 2, Gain: 10, Pull: 3, Door: 5, Weight: 4}
	l[3].Rates = rates.Rates{Door: 194}
	return conf.Conf{Banks: l, Floors: 12, Home: 11, Order: backwards(14), Speed: 5, Width: 9, Dwell: 20, Good: 30, Dead: 40, Lag: 6, Turn: 50, Cost: 60, Full: 7000}
}

// smallest is a group of which no part may be less.
func smallest() conf.Conf {
	return conf.Conf{Banks: banks(1), Floors: 2, Home: 0, Order: []int{0}, Speed: 1, Width: 1, Dwell: 1, Good: 1, Dead: 1, Lag: 0, Turn: 1, Cost: 0, Full: 0}
}

// largest is a group of which no part may be more.
func largest() conf.Conf {
	l := banks(8, 8, 8, 8, 8, 8, 8, 8)
	for place := range l {
		l[place].Rates = rates.Rates{Idle: 1000, Move: 1000, Gain: 1000, Pull: 100, Door: 1000, Weight: 64}
	}
	return conf.Conf{Banks: l, Floors: 32, Home: 31, Order: inOrder(64), Speed: 8, Width: 16, Dwell: 200, Good: 200, Dead: 200, Lag: 8, Turn: 200, Cost: 100, Full: 1048576}
}

// some is groups of many kinds, all of which may be.
func some() []conf.Conf {
	return []conf.Conf{example(), mixed(), smallest(), largest()}
}

type field struct {
	name        string
	of          func(c *conf.Conf) *int
	least, most int
}

// fields are the numbers of a group, each with the least and the greatest one that may be; but for Home, which hangs on Floors.
func fields() []field {
	return []field{
		{"Floors", func(c *conf.Conf) *int { return &c.Floors }, 2, 32},
		{"Speed", func(c *conf.Conf) *int { return &c.Speed }, 1, 8},
		{"Width", func(c *conf.Conf) *int { return &c.Width }, 1, 16},
		{"Dwell", func(c *conf.Conf) *int { return &c.Dwell }, 1, 200},
		{"Good", func(c *conf.Conf) *int { return &c.Good }, 1, 200},
		{"Dead", func(c *conf.Conf) *int { return &c.Dead }, 1, 200},
		{"Turn", func(c *conf.Conf) *int { return &c.Turn }, 1, 200},
		{"Lag", func(c *conf.Conf) *int { return &c.Lag }, 0, 8},
		{"Cost", func(c *conf.Conf) *int { return &c.Cost }, 0, 100},
		{"Full", func(c *conf.Conf) *int { return &c.Full }, 0, 1048576},
	}
}

// about is numbers at, and about, both ends, and far from them.
func about(low, high int) []int {
	return []int{least, -high, -2, -1, 0, 1, 2, low - 1, low, low + 1, (low + high) / 2, high - 1, high, high + 1, high + 2, 2 * high, 1 << 32, greatest}
}

// held tells of a Check that is not as it should be.
func held(t *testing.T, c conf.Conf, want bool) {
	t.Helper()
	if conf.Check(c) != want {
		t.Errorf("Check(%+v) = %v", c, !want)
	}
}

// P5.1

func TestCheck(t *testing.T) {
	for _, c := range some() {
		held(t, c, true)
	}
	held(t, conf.Conf{}, false)
}

func TestCheckOfEachNumber(t *testing.T) {
	for _, f := range fields() {
		for _, n := range about(f.least, f.most) {
			// The other parts are as small, or as great, as may be: none of them makes up for this one.
			for _, c := range some() {
				c.Home = 0
				*f.of(&c) = n
				if want := f.least <= n && n <= f.most; conf.Check(c) != want {
					t.Errorf("Check(%+v) = %v, of its %s", c, !want, f.name)
				}
			}
		}
	}
}

func TestCheckOfHome(t *testing.T) {
	for floors := 2; floors <= 32; floors++ {
		homes := []int{least, -32, -8, 32, 256, greatest}
		for home := -2; home < 35; home++ {
			homes = append(homes, home)
		}
		for _, home := range homes {
			c := example()
			c.Floors, c.Home = floors, home
			held(t, c, home >= 0 && home < floors)
		}
	}
	// No floors: no home.
	for _, floors := range []int{least, -1, 0, 1} {
		for _, home := range []int{least, -2, -1, 0, 1, greatest} {
			c := example()
			c.Floors, c.Home = floors, home
			held(t, c, false)
		}
	}
}

func TestCheckOfHowManyBanks(t *testing.T) {
	for n := range 20 {
		var sizes []int
		for range n {
			sizes = append(sizes, 1)
		}
		c := mixed()
		c.Banks, c.Order = banks(sizes...), backwards(n)
		held(t, c, n >= 1 && n <= 8)
	}
	c := mixed()
	c.Banks, c.Order = []conf.Bank{}, []int{}
	held(t, c, false)
}

func TestCheckOfHowManyCars(t *testing.T) {
	for _, n := range []int{-9, -8, -1, 0, 1, 2, 7, 8, 9, 10, 16, 64} {
		for place := range 4 {
			sizes := []int{8, 8, 8, 8}
			sizes[place] = n
			c := mixed()
			// The order is that of all cars together, so that only the bank's size may be wrong.
			c.Banks, c.Order = banks(sizes...), inOrder(max(0, 24+n))
			held(t, c, n >= 1 && n <= 8)
		}
	}
	for _, sizes := range [][]int{
		{0}, {-1}, {least}, {greatest},
		{least, greatest}, {greatest, least}, {greatest, greatest}, {least, least},
		{1, greatest, -greatest}, {1, 1 << 40, -(1 << 40)},
	} {
		for n := range 3 {
			c := mixed()
			c.Banks, c.Order = banks(sizes...), inOrder(n)
			held(t, c, false)
		}
	}
}

func TestCheckOfRates(t *testing.T) {
	parts := []struct {
		of   func(r *rates.Rates) *int
		most int
	}{
		{func(r *rates.Rates) *int { return &r.Idle }, 1000},
		{func(r *rates.Rates) *int { return &r.Move }, 1000},
		{func(r *rates.Rates) *int { return &r.Gain }, 1000},
		{func(r *rates.Rates) *int { return &r.Pull }, 100},
		{func(r *rates.Rates) *int { return &r.Door }, 1000},
		{func(r *rates.Rates) *int { return &r.Weight }, 64},
	}
	for _, part := range parts {
		for _, n := range []int{least, -1, 0, 1, part.most, part.most + 1, greatest} {
			for place := range 8 {
				c := largest()
				*part.of(&c.Banks[place].Rates) = n
				held(t, c, n >= 0 && n <= part.most)
			}
		}
	}
}

// mays is whether an order has each one of so many cars once, as the promise's words tell it.
func mays(order []int, cars int) bool {
	l := slices.Sorted(slices.Values(order))
	return slices.Equal(l, inOrder(cars))
}

// orders goes through all orders of so many numbers, each one from -1 to most.
func orders(length, most int, f func(order []int)) {
	l := make([]int, length)
	var fill func(place int)
	fill = func(place int) {
		if place == length {
			f(slices.Clone(l))
			return
		}
		for n := -1; n <= most; n++ {
			l[place] = n
			fill(place + 1)
		}
	}
	fill(0)
}

func TestCheckOfEachOrder(t *testing.T) {
	for _, sizes := range [][]int{{1}, {2}, {1, 1}, {3}, {1, 2}, {2, 1, 1}, {4}} {
		c := example()
		c.Banks = banks(sizes...)
		cars := 0
		for _, n := range sizes {
			cars += n
		}
		taken := 0
		for length := range cars + 2 {
			orders(length, cars, func(order []int) {
				c.Order = order
				held(t, c, mays(order, cars))
				if conf.Check(c) {
					taken++
				}
			})
		}
		if want := []int{1, 1, 2, 6, 24}[cars]; taken != want {
			t.Errorf("of %v %d orders may be, want %d", sizes, taken, want)
		}
	}
}

func TestCheckOfLongOrders(t *testing.T) {
	c := largest()
	for _, order := range [][]int{inOrder(64), backwards(64), append(inOrder(64)[32:], inOrder(32)...)} {
		c.Order = order
		held(t, c, true)
		for place := range order {
			for _, n := range []int{least, -64, -1, order[(place+1)%64], order[(place+63)%64], 64, 65, 128, 256, order[place] + 1<<32, greatest} {
				c.Order = slices.Clone(order)
				c.Order[place] = n
				held(t, c, false)
			}
			c.Order = slices.Delete(slices.Clone(order), place, place+1)
			held(t, c, false)
			for _, n := range []int{order[place], 64, -1} {
				c.Order = slices.Insert(slices.Clone(order), place, n)
				held(t, c, false)
			}
		}
	}
	for _, order := range [][]int{nil, {}, inOrder(63), inOrder(65), make([]int, 64)} {
		c.Order = order
		held(t, c, false)
	}
}

func TestCars(t *testing.T) {
	for _, l := range []struct {
		sizes []int
		want  int
	}{
		{[]int{1}, 1},
		{[]int{8}, 8},
		{[]int{2}, 2},
		{[]int{1, 1}, 2},
		{[]int{1, 2, 3}, 6},
		{[]int{3, 1, 8, 2}, 14},
		{[]int{1, 2, 3, 4, 5, 6, 7, 8}, 36},
		{[]int{8, 8, 8, 8, 8, 8, 8, 8}, 64},
	} {
		c := example()
		c.Banks, c.Order = banks(l.sizes...), inOrder(l.want)
		held(t, c, true)
		if n := conf.Cars(c); n != l.want {
			t.Errorf("Cars of %v = %d, want %d", l.sizes, n, l.want)
		}
	}
}

func TestBank(t *testing.T) {
	for _, sizes := range [][]int{{1}, {8}, {1, 1}, {2, 1}, {1, 2}, {3, 1, 8, 2}, {1, 2, 3, 4, 5, 6, 7, 8}, {8, 8, 8, 8, 8, 8, 8, 8}} {
		c := example()
		c.Banks = banks(sizes...)
		var want []int
		for place, n := range sizes {
			want = append(want, slices.Repeat([]int{place}, n)...)
		}
		for car, place := range want {
			if n := c.Bank(car); n != place {
				t.Errorf("Bank(%d) of %v = %d, want %d", car, sizes, n, place)
			}
		}
		for _, car := range []int{least, least + 1, -64, -8, -2, -1, len(want), len(want) + 1, len(want) + 8, 64, 65, 1 << 32, greatest} {
			if n := c.Bank(car); n != -1 {
				t.Errorf("Bank(%d) of %v = %d, want -1", car, sizes, n)
			}
		}
	}
}

// P5.2

func TestMost(t *testing.T) {
	far := rates.Rates{Idle: 1, Move: 2, Gain: 10, Pull: 3, Door: 5, Weight: 4}  // 193, upwards, as full as may be
	low := rates.Rates{Idle: 1, Move: 2, Gain: 10, Pull: 3, Door: 5, Weight: 64} // 205, downwards, empty
	for _, l := range []struct {
		rates []rates.Rates
		want  int
	}{
		{[]rates.Rates{{}}, 0},
		{[]rates.Rates{{}, {}}, 0},
		{[]rates.Rates{far}, 193},
		{[]rates.Rates{low}, 205},
		{[]rates.Rates{far, low}, 205},
		{[]rates.Rates{low, far}, 205},
		{[]rates.Rates{{}, {}, far, {}}, 193},
		{[]rates.Rates{far, {Door: 192}}, 193},
		{[]rates.Rates{far, {Door: 194}}, 194},
		{[]rates.Rates{{Door: 194}, far}, 194},
		{[]rates.Rates{{Door: 1}, {Door: 2}, {Door: 3}, {Door: 4}, {Door: 5}, {Door: 6}, {Door: 7}, {Door: 8}}, 8},
		{[]rates.Rates{{Door: 8}, {Door: 7}, {Door: 6}, {Door: 5}, {Door: 4}, {Door: 3}, {Door: 2}, {Door: 1}}, 8},
	} {
		c := example()
		c.Banks = nil
		for _, r := range l.rates {
			// How many cars there are doesn't matter: it is what one of them draws.
			c.Banks = append(c.Banks, conf.Bank{Cars: 8, Rates: r})
		}
		if n := conf.Most(c); n != l.want {
			t.Errorf("Most of %+v = %d, want %d", l.rates, n, l.want)
		}
	}
	if n := conf.Most(mixed()); n != 194 {
		t.Errorf("Most = %d, want 194", n)
	}
	if n := conf.Most(largest()); n != 9400 {
		t.Errorf("Most of the largest group = %d, want 9400", n)
	}
}

func TestExample(t *testing.T) {
	c := example()
	if n := conf.Run(c); n != 17 {
		t.Errorf("Run = %d", n)
	}
	if n := conf.Doors(c); n != 3 {
		t.Errorf("Doors = %d", n)
	}
	if n := conf.Saves(c); n != 30 {
		t.Errorf("Saves = %d", n)
	}
	if n := conf.Limit(c, 0); n != 70 {
		t.Errorf("Limit = %d", n)
	}
	if n := conf.Back(c, 0); n != 5+17+6+8+2+2+20 {
		t.Errorf("Back = %d", n)
	}
}

// waits is how many ticks doors that are blocked take, as they count.
func waits(blocked int) int {
	if blocked < 0 {
		return 0
	}
	if blocked > 1000000 {
		return 1000000
	}
	return blocked
}

// cars is how many cars a group has, counted one by one.
func cars(c conf.Conf) int {
	n := 0
	for _, b := range c.Banks {
		for range b.Cars {
			n++
		}
	}
	return n
}

// asTold tells of sums of a group that are not as the promise's words tell them.
func asTold(t *testing.T, c conf.Conf, blocked int) {
	t.Helper()
	run, doors := (c.Floors-1)*8+1, c.Width+1
	limit := cars(c)*(run+2*doors+4) + waits(blocked) + c.Good + c.Dead + c.Lag + 10
	back := c.Good + run + 2*doors + 8 + c.Width + 2*c.Dead + waits(blocked) + 20
	for _, l := range []struct {
		name    string
		n, want int
	}{
		{"Cars", conf.Cars(c), cars(c)},
		{"Run", conf.Run(c), run},
		{"Doors", conf.Doors(c), doors},
		{"Saves", conf.Saves(c), c.Cost * (8 + c.Width)},
		{"Limit", conf.Limit(c, blocked), limit},
		{"Back", conf.Back(c, blocked), back},
	} {
		if l.n != l.want {
			t.Errorf("%s of %+v, blocked for %d, = %d, want %d", l.name, c, blocked, l.n, l.want)
		}
	}
}

// blocks are all kinds of ticks for which doors are blocked.
var blocks = []int{least, -1000000, -2, -1, 0, 1, 2, 200, 65536, 999999, 1000000, 1000001, 1000002, 2000000, 1 << 40, 1<<40 + 1, greatest}

func TestSums(t *testing.T) {
	for _, c := range some() {
		for _, blocked := range blocks {
			asTold(t, c, blocked)
		}
		for _, f := range fields() {
			for n := f.least; n <= f.most; n += max(1, f.most/200) {
				d := c
				d.Home = 0
				*f.of(&d) = n
				asTold(t, d, 3)
			}
		}
	}
	for _, sizes := range [][]int{{1}, {8}, {1, 2}, {5, 1, 4}, {1, 1, 1, 1, 1, 1, 1, 1}} {
		c := mixed()
		c.Banks = banks(sizes...)
		asTold(t, c, 77)
	}
}

func TestSumsOfTheEnds(t *testing.T) {
	for _, l := range []struct {
		c                              conf.Conf
		run, doors, saves, limit, back int
	}{
		{smallest(), 9, 2, 0, 1*(9+4+4) + 1 + 1 + 0 + 10, 1 + 9 + 4 + 8 + 1 + 2 + 20},
		{mixed(), 89, 10, 60 * 17, 14*(89+20+4) + 30 + 40 + 6 + 10, 30 + 89 + 20 + 8 + 9 + 80 + 20},
		{largest(), 249, 17, 2400, 64*(249+34+4) + 200 + 200 + 8 + 10, 200 + 249 + 34 + 8 + 16 + 400 + 20},
	} {
		if n := conf.Run(l.c); n != l.run {
			t.Errorf("Run = %d, want %d", n, l.run)
		}
		if n := conf.Doors(l.c); n != l.doors {
			t.Errorf("Doors = %d, want %d", n, l.doors)
		}
		if n := conf.Saves(l.c); n != l.saves {
			t.Errorf("Saves = %d, want %d", n, l.saves)
		}
		for _, blocked := range []struct{ told, counts int }{{least, 0}, {-1, 0}, {0, 0}, {1, 1}, {1000000, 1000000}, {1000001, 1000000}, {greatest, 1000000}} {
			if n := conf.Limit(l.c, blocked.told); n != l.limit+blocked.counts {
				t.Errorf("Limit of %d = %d, want %d", blocked.told, n, l.limit+blocked.counts)
			}
			if n := conf.Back(l.c, blocked.told); n != l.back+blocked.counts {
				t.Errorf("Back of %d = %d, want %d", blocked.told, n, l.back+blocked.counts)
			}
		}
	}
}

func TestWhatSumsDontHangOn(t *testing.T) {
	for _, c := range some() {
		for _, change := range []func(c *conf.Conf){
			func(c *conf.Conf) { c.Home = c.Floors / 2 },
			func(c *conf.Conf) { c.Speed = 3 },
			func(c *conf.Conf) { c.Dwell = 99 },
			func(c *conf.Conf) { c.Turn = 98 },
			func(c *conf.Conf) { c.Full = 97 },
			func(c *conf.Conf) { slices.Sort(c.Order) },
			func(c *conf.Conf) { c.Banks[0].Rates.Door = 1000 },
		} {
			d := c
			d.Banks, d.Order = slices.Clone(c.Banks), slices.Clone(c.Order)
			change(&d)
			held(t, d, true)
			if takes(c) != takes(d) || conf.Saves(c) != conf.Saves(d) {
				t.Errorf("%+v takes %v, and %+v %v", c, takes(c), d, takes(d))
			}
		}
	}
}

// P5.3

// takes is how long all takes in a group.
func takes(c conf.Conf) [4]int {
	return [4]int{conf.Run(c), conf.Doors(c), conf.Limit(c, 5), conf.Back(c, 5)}
}

// noLess tells of a group that takes less time than one that has less.
func noLess(t *testing.T, less, more conf.Conf) {
	t.Helper()
	held(t, less, true)
	held(t, more, true)
	a, b := takes(less), takes(more)
	for place := range a {
		if b[place] < a[place] {
			t.Errorf("%+v takes %v, but %+v only %v", less, a, more, b)
		}
	}
}

func TestAnotherCarTakesNoLess(t *testing.T) {
	for _, c := range some() {
		for place := range c.Banks {
			if c.Banks[place].Cars == 8 {
				continue
			}
			d := c
			d.Banks = slices.Clone(c.Banks)
			d.Banks[place].Cars++
			d.Order = inOrder(cars(d))
			noLess(t, c, d)
			if conf.Cars(d) != conf.Cars(c)+1 || conf.Limit(d, 0) <= conf.Limit(c, 0) {
				t.Errorf("Limit of %+v = %d, of one with another car %d", c, conf.Limit(c, 0), conf.Limit(d, 0))
			}
		}
		if len(c.Banks) < 8 {
			d := c
			d.Banks = append(slices.Clone(c.Banks), conf.Bank{Cars: 1, Rates: rates.Rates{Door: 3}})
			d.Order = inOrder(cars(d))
			noLess(t, c, d)
			if conf.Most(d) < conf.Most(c) {
				t.Errorf("Most of %+v = %d, of one with another bank %d", c, conf.Most(c), conf.Most(d))
			}
		}
	}
}

func TestAnotherFloorTakesNoLess(t *testing.T) {
	for _, c := range some() {
		c.Home = 0
		for floors := 2; floors < 32; floors++ {
			d := c
			c.Floors, d.Floors = floors, floors+1
			noLess(t, c, d)
		}
	}
}

func TestNoBoundOfSatIsMet(t *testing.T) {
	c := largest()
	held(t, c, true)
	for _, n := range []int{conf.Cars(c), conf.Most(c), conf.Run(c), conf.Doors(c), conf.Saves(c), conf.Limit(c, greatest), conf.Back(c, greatest)} {
		if _, met := sat.Sum(int64(n)); met || int64(n) >= sat.Most || n <= 0 {
			t.Errorf("%d, of the largest group, met a bound", n)
		}
	}
	asTold(t, c, 1000000)
}

// What holds in all layers

func TestWhatIsHandedInStays(t *testing.T) {
	c, want := mixed(), mixed()
	conf.Check(c)
	conf.Cars(c)
	c.Bank(13)
	conf.Most(c)
	conf.Limit(c, 1)
	conf.Back(c, 1)
	if !reflect.DeepEqual(c, want) {
		t.Errorf("%+v was changed to %+v", want, c)
	}
	// Behind what is told, too.
	c.Order = append(c.Order, 99)[:14]
	c.Banks = append(c.Banks, conf.Bank{Cars: 77})[:4]
	held(t, c, true)
	if c.Order[:15][14] != 99 || c.Banks[:5][4].Cars != 77 || conf.Cars(c) != 14 {
		t.Error("what is behind was changed, or counted")
	}
}

func TestAgainTheSame(t *testing.T) {
	for _, c := range some() {
		for range 3 {
			held(t, c, true)
			asTold(t, c, 9)
		}
		// What an order was found to have isn't kept for the next one.
		c.Order = append(c.Order, 0)
		held(t, c, false)
		c.Order = c.Order[:len(c.Order)-1]
		held(t, c, true)
	}
}

func TestGroupsThatMayNotBeEndToo(t *testing.T) {
	// What is answered is free, but of Check; that the calls end is not.
	l := []conf.Conf{{}, {Banks: banks(0)}, {Banks: banks(least, greatest, 0, -1)}, {Banks: banks(greatest, greatest, least)}}
	for _, f := range fields() {
		for _, n := range []int{least, -1, greatest} {
			c := largest()
			*f.of(&c) = n
			l = append(l, c)
		}
	}
	c := largest()
	c.Banks[0].Rates.Pull = greatest
	l = append(l, c)
	for _, c := range l {
		held(t, c, false)
		conf.Cars(c)
		conf.Most(c)
		conf.Run(c)
		conf.Doors(c)
		conf.Saves(c)
		for _, n := range blocks {
			c.Bank(n)
			conf.Limit(c, n)
			conf.Back(c, n)
		}
	}
}

func FuzzAsTheWordsSay(f *testing.F) {
	f.Add(2, 0, 3, 1, 2, 2, 5, 1, 0, 3, 0, []byte{1, 0})
	f.Add(1, 1, 3, 1, 2, 2, 5, 1, 0, 3, 9, []byte{1, 1})
	f.Add(8, 9, 32, 32, 8, 16, 200, 200, 8, 100, 1000001, []byte{})
	f.Fuzz(func(t *testing.T, one, two, floors, home, speed, width, good, dead, lag, cost, blocked int, order []byte) {
		c := conf.Conf{Banks: banks(one), Floors: floors, Home: home, Speed: speed, Width: width, Dwell: 1, Good: good, Dead: dead, Lag: lag, Turn: 1, Cost: cost}
		if two != 0 {
			c.Banks = banks(one, two)
		}
		for _, car := range order {
			c.Order = append(c.Order, int(car))
		}
		want := one >= 1 && one <= 8 && (two == 0 || two >= 1 && two <= 8) && floors >= 2 && floors <= 32 && home >= 0 && home < floors &&
			speed >= 1 && speed <= 8 && width >= 1 && width <= 16 && good >= 1 && good <= 200 && dead >= 1 && dead <= 200 &&
			lag >= 0 && lag <= 8 && cost >= 0 && cost <= 100 && mays(c.Order, one+two)
		held(t, c, want)
		conf.Limit(c, blocked)
		conf.Back(c, blocked)
		if want {
			asTold(t, c, blocked)
		}
	})
}
