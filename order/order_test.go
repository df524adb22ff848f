package order_test

import (
	"math"
	"math/bits"
	"slices"
	"testing"

	"paternoster/order"
)

const (
	least    = math.MinInt
	greatest = math.MaxInt
	maxBits  = 1<<64 - 1
	cars     = 64
)

// strange are cars that have no bit; some of them would have one if only their last bits counted.
var strange = []int{least, least + 1, -1 << 32, -1<<32 + 5, -129, -128, -65, -64, -63, -2, -1, 64, 65, 66, 127, 128, 255, 256, 1 << 31, 1 << 32, 1<<32 + 5, greatest - 1, greatest}

// rows are bits of all kinds.
var rows = []uint64{0, 1, 2, 3, 5, 1 << 31, 1 << 32, 1<<32 - 1, 1 << 63, 1<<63 | 1, 1<<63 - 1, 0x5555555555555555, 0xaaaaaaaaaaaaaaaa, 0x0123456789abcdef, maxBits - 1, maxBits}

// set is bits as a list: whether each car has one that is 1.
type set [cars]bool

// setOf is what bits are, told by halving, as a car's bit is the one of value 2^car.
func setOf(b uint64) set {
	var s set
	for car := range cars {
		s[car] = b%2 == 1
		b /= 2
	}
	return s
}

// may tells whether a car of an order may be next, as the promise's words tell it.
func may(car int, done, out set) bool {
	return 0 <= car && car <= 63 && !done[car] && !out[car]
}

// nextOf is Next and Left, as the promise's words tell them.
func nextOf(list []int, done, out set) (int, int) {
	next, left := -1, 0
	for i := len(list) - 1; i >= 0; i-- {
		if may(list[i], done, out) {
			next = list[i]
			left++
		}
	}
	return next, left
}

// holds tells of an order of which Next or Left isn't what the words say.
func holds(t *testing.T, list []int, done, out uint64) {
	t.Helper()
	next, left := nextOf(list, setOf(done), setOf(out))
	if x := order.Next(list, done, out); x != next {
		t.Fatalf("Next(%v, %#x, %#x) = %d, want %d", list, done, out, x, next)
	}
	if x := order.Left(list, done, out); x != left {
		t.Fatalf("Left(%v, %#x, %#x) = %d, want %d", list, done, out, x, left)
	}
}

// P19.1

func TestBits(t *testing.T) {
	for _, c := range []struct {
		bits          uint64
		car           int
		with, without uint64
		has           bool
	}{
		{0, 0, 1, 0, false},
		{1, 0, 1, 0, true},
		{0, 1, 2, 0, false},
		{5, 1, 7, 5, false},
		{5, 2, 5, 1, true},
		{7, 0, 7, 6, true},
		{1, 31, 1<<31 | 1, 1, false},
		{1 << 31, 31, 1 << 31, 0, true},
		{1, 32, 1<<32 | 1, 1, false},
		{1 << 32, 32, 1 << 32, 0, true},
		{1, 63, 1<<63 | 1, 1, false},
		{1 << 63, 63, 1 << 63, 0, true},
		{maxBits, 63, maxBits, 1<<63 - 1, true},
		{maxBits, 0, maxBits, maxBits - 1, true},
		// Cars that have no bit.
		{0, -1, 0, 0, false},
		{maxBits, -1, maxBits, maxBits, false},
		{0, 64, 0, 0, false},
		{1, 64, 1, 1, false},
		{maxBits, 64, maxBits, maxBits, false},
		{maxBits, least, maxBits, maxBits, false},
		{maxBits, greatest, maxBits, maxBits, false},
	} {
		if x := order.With(c.bits, c.car); x != c.with {
			t.Errorf("With(%#x, %d) = %#x, want %#x", c.bits, c.car, x, c.with)
		}
		if x := order.Without(c.bits, c.car); x != c.without {
			t.Errorf("Without(%#x, %d) = %#x, want %#x", c.bits, c.car, x, c.without)
		}
		if x := order.Has(c.bits, c.car); x != c.has {
			t.Errorf("Has(%#x, %d) = %t", c.bits, c.car, x)
		}
	}
}

func TestBitsOfEachCar(t *testing.T) {
	for _, b := range rows {
		s := setOf(b)
		for car := range cars {
			with, without := s, s
			with[car], without[car] = true, false
			if x := order.With(b, car); setOf(x) != with {
				t.Errorf("With(%#x, %d) = %#x", b, car, x)
			}
			if x := order.Without(b, car); setOf(x) != without {
				t.Errorf("Without(%#x, %d) = %#x", b, car, x)
			}
			if x := order.Has(b, car); x != s[car] {
				t.Errorf("Has(%#x, %d) = %t", b, car, x)
			}
		}
	}
}

func TestStrangeCarsHaveNoBit(t *testing.T) {
	for _, b := range rows {
		for _, car := range strange {
			if with, without, has := order.With(b, car), order.Without(b, car), order.Has(b, car); with != b || without != b || has {
				t.Errorf("%#x, %d: With %#x, Without %#x, Has %t", b, car, with, without, has)
			}
		}
	}
}

// P19.2

func TestNext(t *testing.T) {
	for _, c := range []struct {
		list       []int
		done, out  uint64
		next, left int
	}{
		// The chapter's examples.
		{[]int{2, 0, 1}, 4, 0, 0, 2},
		{[]int{2, 0, 1}, 4, 1, 1, 1},
		// None at all, and all that there are.
		{nil, 0, 0, -1, 0},
		{[]int{}, 0, 0, -1, 0},
		{nil, maxBits, maxBits, -1, 0},
		{[]int{2, 0, 1}, 0, 0, 2, 3},
		{[]int{2, 0, 1}, 7, 0, -1, 0},
		{[]int{2, 0, 1}, 0, 7, -1, 0},
		{[]int{2, 0, 1}, 5, 2, -1, 0},
		{[]int{2, 0, 1}, maxBits, maxBits, -1, 0},
		// Done and out are alike, and both at once is no more than one of them.
		{[]int{2, 0, 1}, 0, 4, 0, 2},
		{[]int{2, 0, 1}, 4, 4, 0, 2},
		{[]int{2, 0, 1}, 5, 5, 1, 1},
		{[]int{2, 0, 1}, 6, 3, -1, 0},
		// Only who is of the order counts.
		{[]int{2, 0, 1}, maxBits - 7, maxBits - 7, 2, 3},
		{[]int{5}, 1 << 4, 1 << 6, 5, 1},
		// The ends of the cars that have a bit.
		{[]int{0}, 0, 0, 0, 1},
		{[]int{63}, 0, 0, 63, 1},
		{[]int{63, 0}, 1 << 63, 0, 0, 1},
		{[]int{63, 0}, 0, 1 << 63, 0, 1},
		{[]int{63, 0}, 1, 0, 63, 1},
		{[]int{63}, 1<<63 - 1, 0, 63, 1},
		{[]int{63}, 0, 1 << 63, -1, 0},
		{[]int{31, 32}, 1 << 31, 0, 32, 1},
		// Cars that have no bit are no such ones.
		{[]int{-1}, 0, 0, -1, 0},
		{[]int{64}, 0, 0, -1, 0},
		{[]int{64, -1, 3}, 0, 0, 3, 1},
		{[]int{-61, 67, 3, least, 1, greatest}, 0, 0, 3, 2},
		{[]int{-61, 67, 3, least, 1, greatest}, 8, 0, 1, 1},
		{[]int{least, -64, -1, 64, 128, greatest}, 0, 0, -1, 0},
		// A car that is named twice is there twice.
		{[]int{4, 4}, 0, 0, 4, 2},
		{[]int{4, 2, 4}, 4, 0, 4, 2},
		{[]int{4, 2, 4}, 16, 0, 2, 1},
	} {
		if x := order.Next(c.list, c.done, c.out); x != c.next {
			t.Errorf("Next(%v, %#x, %#x) = %d, want %d", c.list, c.done, c.out, x, c.next)
		}
		if x := order.Left(c.list, c.done, c.out); x != c.left {
			t.Errorf("Left(%v, %#x, %#x) = %d, want %d", c.list, c.done, c.out, x, c.left)
		}
	}
}

// each hands on all lists of at most so many things, each of which is one of some.
func each(most int, of []int, hand func(list []int)) {
	var longer func(list []int)
	longer = func(list []int) {
		hand(list)
		if len(list) == most {
			return
		}
		for _, x := range of {
			longer(append(slices.Clone(list), x))
		}
	}
	longer(nil)
}

// spread are the bits of some cars, as a number of as many bits tells them.
func spread(few int, of []int) uint64 {
	var b uint64
	for i, car := range of {
		if few>>i&1 == 1 {
			b |= 1 << car
		}
	}
	return b
}

func TestNextOfAllShortOrders(t *testing.T) {
	bitted := []int{0, 1, 31, 63}
	each(4, append([]int{-1, 64}, bitted...), func(list []int) {
		for done := range 1 << len(bitted) {
			for out := range 1 << len(bitted) {
				holds(t, list, spread(done, bitted), spread(out, bitted))
			}
		}
	})
}

func TestNextOfStrangeCars(t *testing.T) {
	for _, a := range strange {
		for _, b := range strange {
			for _, done := range rows {
				for _, out := range rows {
					holds(t, []int{a, b}, done, out)
					holds(t, []int{a, 5, b, 63}, done, out)
				}
			}
		}
	}
}

// strided are all cars, from one on, by a step that is odd.
func strided(first, step int) []int {
	var list []int
	for i := range cars {
		list = append(list, (first+step*i)%cars)
	}
	return list
}

func TestNextOfLongOrders(t *testing.T) {
	for first := 0; first < cars; first += 7 {
		for step := 1; step < cars; step += 2 {
			list := strided(first, step)
			list = append(append(list, strange...), list...)
			for _, done := range rows {
				for _, out := range rows {
					holds(t, list, done, out)
				}
			}
		}
	}
}

func TestNothingHandedInIsChanged(t *testing.T) {
	whole := []int{9, 2, 64, 0, -1, 63, 9}
	list := whole[1:6:7]
	ahead := slices.Clone(whole)
	for range 3 {
		if next, left := order.Next(list, 4, 0), order.Left(list, 4, 0); next != 0 || left != 2 {
			t.Errorf("%v: Next %d, Left %d", list, next, left)
		}
		if !slices.Equal(whole, ahead) {
			t.Fatalf("the order is %v", whole)
		}
	}
	// Nor kept: what is in it now counts.
	list[2] = 7
	if next, left := order.Next(list, 4, 0), order.Left(list, 4, 0); next != 7 || left != 2 {
		t.Errorf("%v: Next %d, Left %d", list, next, left)
	}
}

// P19.3

// goesOn lets cars be done one by one, as each is next, and tells of an order of which not all are so once, in order.
func goesOn(t *testing.T, list []int, done, out uint64) {
	t.Helper()
	var want []int
	for _, car := range list {
		if car >= 0 && car < cars && !setOf(done)[car] && !setOf(out)[car] && !slices.Contains(want, car) {
			want = append(want, car)
		}
	}
	var got []int
	for now := done; len(got) <= len(want); {
		car := order.Next(list, now, out)
		if car < 0 {
			break
		}
		got = append(got, car)
		now = order.With(now, car)
	}
	if !slices.Equal(got, want) {
		t.Fatalf("%v, done %#x, out %#x: next are %v, want %v", list, done, out, got, want)
	}
}

func TestAllAreNextOnceInOrder(t *testing.T) {
	bitted := []int{0, 1, 31, 63}
	each(5, append([]int{-1, 64}, bitted...), func(list []int) {
		for few := range 1 << len(bitted) {
			goesOn(t, list, 0, spread(few, bitted))
			goesOn(t, list, spread(few, bitted), 0)
		}
	})
	for first := 0; first < cars; first += 5 {
		for step := 1; step < cars; step += 2 {
			for _, b := range rows {
				goesOn(t, strided(first, step), 0, b)
				goesOn(t, strided(first, step), b, ^b)
			}
		}
	}
}

func TestFewerAreLeftWithEachThatIsDone(t *testing.T) {
	for first := 0; first < cars; first += 3 {
		for step := 1; step < cars; step += 2 {
			list := strided(first, step)
			for _, out := range rows {
				done := uint64(0)
				for left := cars - bits.OnesCount64(out); left > 0; left-- {
					if x := order.Left(list, done, out); x != left {
						t.Fatalf("%v, done %#x, out %#x: Left is %d, want %d", list, done, out, x, left)
					}
					done = order.With(done, order.Next(list, done, out))
				}
				if next, left := order.Next(list, done, out), order.Left(list, done, out); next != -1 || left != 0 {
					t.Fatalf("%v, done %#x, out %#x: all are done, and Next is %d, Left %d", list, done, out, next, left)
				}
			}
		}
	}
}

func TestWhoeverIsDoneOrOutIsPassedOver(t *testing.T) {
	// Whichever cars these are, and whether they are so ahead of their turn or in it; and who is so no more is next again.
	list := strided(3, 5)
	for _, b := range rows {
		for i, car := range list {
			ahead := uint64(0)
			for _, x := range list[:i] {
				ahead = order.With(ahead, x)
			}
			if next := order.Next(list, ahead, order.Without(b, car)); next != car {
				t.Errorf("%#x: Next is %d, want %d", b, next, car)
			}
			if next := order.Next(list, order.With(ahead, car), b); next == car || next >= 0 && order.Has(b, next) {
				t.Errorf("%#x: Next is %d, as %d is done", b, next, car)
			}
			if next := order.Next(list, ahead, order.With(b, car)); next == car || next >= 0 && order.Has(b, next) {
				t.Errorf("%#x: Next is %d, as %d is out", b, next, car)
			}
		}
	}
}

func FuzzNextAsTheWordsSay(f *testing.F) {
	f.Add([]byte{2, 0, 1}, uint64(4), uint64(1), 2)
	f.Add([]byte{2, 64, 0, 255, 63}, uint64(5), uint64(1)<<63, 64)
	f.Add([]byte{}, uint64(0), uint64(0), -1)
	f.Add([]byte{128, 127, 63, 63}, uint64(maxBits), uint64(0), least)
	f.Fuzz(func(t *testing.T, row []byte, done, out uint64, car int) {
		var list []int
		for _, x := range row {
			list = append(list, int(int8(x)))
		}
		list = append(list, car)
		holds(t, list, done, out)
		goesOn(t, list, done, out)
		with, without, has := setOf(done), setOf(done), false
		if car >= 0 && car < cars {
			has = with[car]
			with[car], without[car] = true, false
		}
		if setOf(order.With(done, car)) != with || setOf(order.Without(done, car)) != without || order.Has(done, car) != has {
			t.Errorf("%#x, %d: With %#x, Without %#x, Has %t", done, car, order.With(done, car), order.Without(done, car), order.Has(done, car))
		}
	})
}
