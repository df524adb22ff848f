package calls_test

import (
	"math"
	"slices"
	"testing"

	"paternoster/calls"
)

const (
	least    = math.MinInt
	greatest = math.MaxInt
	all      = 1<<32 - 1
	most     = 32  // floors
	top      = 248 // the highest place of which is told
)

// strange are numbers of no floor and no car; some of them would be one if only their last bits counted.
var strange = []int{least, least + 1, -1 << 32, -1<<32 + 1, -1<<32 + 5, -257, -256, -255, -129, -128, -65, -64, -63, -33, -32, -31, -2, -1, 64, 65, 66, 95, 96, 127, 128, 129, 255, 256, 257, 1 << 31, 1 << 32, 1<<32 + 1, 1<<32 + 5, greatest - 1, greatest}

// rows are bits of all kinds.
var rows = []uint32{0, 1, 2, 3, 5, 6, 8, 21, 1 << 15, 1 << 16, 1<<16 - 1, 3 << 15, 1 << 30, 1 << 31, 3 << 30, 1<<31 | 1, 1<<31 - 1, 0x55555555, 0xaaaaaaaa, 0x01234567, 0x89abcdef, all - 1, all}

// both are what may be told of halls.
var both = []bool{false, true}

// floorSet is bits as a list: whether each floor has one that is 1.
type floorSet [most]bool

// setOf is what bits are, told by halving, as a floor's bit is the one of value 2^floor.
func setOf(row uint32) floorSet {
	var s floorSet
	for floor := range most {
		s[floor] = row%2 == 1
		row /= 2
	}
	return s
}

// told is calls as sets: those of halls first, then each car's.
func told(c calls.Calls) []floorSet {
	l := []floorSet{setOf(c.Halls)}
	for _, row := range c.Cars {
		l = append(l, setOf(row))
	}
	return l
}

// of is calls of halls, and of rows of cars.
func of(halls uint32, cars ...uint32) calls.Calls {
	return calls.Calls{Halls: halls, Cars: cars}
}

// same tells whether two calls are the same; nil and empty lists are one.
func same(a, b calls.Calls) bool { return a.Halls == b.Halls && slices.Equal(a.Cars, b.Cars) }

// cloned is calls in memory of their own.
func cloned(c calls.Calls) calls.Calls {
	return calls.Calls{Halls: c.Halls, Cars: slices.Clone(c.Cars)}
}

// isFloor tells whether there is such a floor, as the chapter's words tell it.
func isFloor(floor, floors int) bool { return 0 <= floor && floor <= floors-1 && floor <= 31 }

// hallOf is Hall, as the promise's words tell it, of calls as sets.
func hallOf(l []floorSet, floor, floors int) ([]floorSet, bool) {
	l = slices.Clone(l)
	if floors <= 0 || !isFloor(floor, floors) {
		return l, false
	}
	l[0][floor] = true
	return l, true
}

// carOf is Car, as the promise's words tell it.
func carOf(l []floorSet, car, floor, floors int) ([]floorSet, bool) {
	l = slices.Clone(l)
	if car < 0 || car > len(l)-2 || floors <= 0 || !isFloor(floor, floors) {
		return l, false
	}
	l[1+car][floor] = true
	return l, true
}

// doneOf is Done, as the promise's words tell it.
func doneOf(l []floorSet, car, floor int, halls bool) []floorSet {
	l = slices.Clone(l)
	if floor < 0 || floor > 31 {
		return l
	}
	if 0 <= car && car <= len(l)-2 {
		l[1+car][floor] = false
	}
	if halls {
		l[0][floor] = false
	}
	return l
}

// manyOf is Many, as the promise's words tell it.
func manyOf(l []floorSet) int {
	many := 0
	for _, s := range l {
		for _, is := range s {
			if is {
				many++
			}
		}
	}
	return many
}

// nextOf is Next, as the promise's words tell it.
func nextOf(l []floorSet, car, pos int, halls floorSet) int {
	if car < 0 || car > len(l)-2 {
		return -1
	}
	// From the nearest places on, the lower one first.
	for away := 0; away <= top; away++ {
		for _, at := range []int{pos - away, pos + away} {
			if at >= 0 && at <= top && at%8 == 0 && l[1+car][at/8] {
				return at / 8
			}
		}
	}
	for floor := range most {
		if l[0][floor] && halls[floor] {
			return floor
		}
	}
	return -1
}

// holds tells of calls of which any function isn't what the words say.
func holds(t *testing.T, c calls.Calls, car, floor, floors, pos int, halls uint32) {
	t.Helper()
	l := told(c)
	got, ok := c.Hall(floor, floors)
	want, wantOk := hallOf(l, floor, floors)
	if !slices.Equal(told(got), want) || ok != wantOk {
		t.Fatalf("%x: Hall(%d, %d) = %x, %t", c, floor, floors, got, ok)
	}
	got, ok = c.Car(car, floor, floors)
	want, wantOk = carOf(l, car, floor, floors)
	if !slices.Equal(told(got), want) || ok != wantOk {
		t.Fatalf("%x: Car(%d, %d, %d) = %x, %t", c, car, floor, floors, got, ok)
	}
	for _, in := range both {
		if got := c.Done(car, floor, in); !slices.Equal(told(got), doneOf(l, car, floor, in)) {
			t.Fatalf("%x: Done(%d, %d, %t) = %x", c, car, floor, in, got)
		}
	}
	if x, want := c.Next(car, pos, halls), nextOf(l, car, pos, setOf(halls)); x != want {
		t.Fatalf("%x: Next(%d, %d, %#x) = %d, want %d", c, car, pos, halls, x, want)
	}
	if x, want := c.Many(), manyOf(l); x != want {
		t.Fatalf("%x: Many is %d, want %d", c, x, want)
	}
}

// drawn tells numbers below n, as chance has it (drawn from a seed).
func drawn(seed uint32) func(n int) int {
	return func(n int) int {
		seed = seed*1664525 + 1013904223
		return int(uint64(seed) * uint64(n) >> 32)
	}
}

// P22.1

func TestNew(t *testing.T) {
	for cars := -70; cars <= 200; cars++ {
		want := cars
		if cars < 0 || cars > 64 {
			want = 0
		}
		c := calls.New(cars)
		if len(c.Cars) != want || manyOf(told(c)) != 0 || c.Many() != 0 {
			t.Errorf("New(%d) = %v, Many is %d", cars, c, c.Many())
		}
	}
	for _, cars := range strange {
		if cars == 64 {
			continue
		}
		if c := calls.New(cars); len(c.Cars) != 0 || c.Halls != 0 {
			t.Errorf("New(%d) = %v", cars, c)
		}
	}
}

func TestNewIsOfItsOwn(t *testing.T) {
	a, b := calls.New(3), calls.New(3)
	a.Cars[1] = 7
	if !same(b, of(0, 0, 0, 0)) || !same(calls.New(3), of(0, 0, 0, 0)) {
		t.Errorf("%v, as another one is changed", b)
	}
}

func TestHall(t *testing.T) {
	for _, c := range []struct {
		halls         uint32
		floor, floors int
		want          uint32
		ok            bool
	}{
		{0, 0, 4, 1, true},
		{0, 3, 4, 8, true},
		{1, 2, 4, 5, true},
		{5, 2, 4, 5, true}, // it is there already
		{all, 31, 32, all, true},
		{0, 0, 1, 1, true},
		{0, 31, 32, 1 << 31, true},
		{1, 30, 31, 1<<30 | 1, true},
		{0, 31, 33, 1 << 31, true},
		{0, 31, greatest, 1 << 31, true},
		{0, 0, greatest, 1, true},
		// No such floors.
		{5, 4, 4, 5, false},
		{5, 5, 4, 5, false},
		{5, -1, 4, 5, false},
		{5, 31, 31, 5, false},
		{5, 32, 32, 5, false},
		{5, 32, 33, 5, false},
		{5, 63, 64, 5, false},
		{5, 64, 65, 5, false},
		{5, 32, greatest, 5, false},
		{5, greatest - 1, greatest, 5, false},
		{5, greatest, greatest, 5, false},
		{5, least, 4, 5, false},
		{5, greatest, 4, 5, false},
		{5, 1, 1, 5, false},
		{5, 0, 0, 5, false},
		{5, 0, -1, 5, false},
		{5, -1, -1, 5, false},
		{5, -2, -1, 5, false},
		{5, 0, least, 5, false},
		{5, greatest, least, 5, false},
		{5, least, least, 5, false},
		{all, 4, 4, all, false},
		{0, 4, 4, 0, false},
	} {
		got, ok := of(c.halls, 3, 9).Hall(c.floor, c.floors)
		if !same(got, of(c.want, 3, 9)) || ok != c.ok {
			t.Errorf("%#x: Hall(%d, %d) = %x, %t", c.halls, c.floor, c.floors, got, ok)
		}
	}
}

func TestCar(t *testing.T) {
	for _, c := range []struct {
		car, floor, floors int
		want               []uint32
		ok                 bool
	}{
		{0, 0, 4, []uint32{1, 6, all}, true},
		{0, 3, 4, []uint32{8, 6, all}, true},
		{1, 0, 4, []uint32{0, 7, all}, true},
		{1, 1, 4, []uint32{0, 6, all}, true}, // it is there already
		{2, 5, 6, []uint32{0, 6, all}, true},
		{0, 0, 1, []uint32{1, 6, all}, true},
		{0, 31, 32, []uint32{1 << 31, 6, all}, true},
		{1, 31, 33, []uint32{0, 1<<31 | 6, all}, true},
		{1, 31, greatest, []uint32{0, 1<<31 | 6, all}, true},
		// No such floors.
		{0, 4, 4, []uint32{0, 6, all}, false},
		{0, -1, 4, []uint32{0, 6, all}, false},
		{0, 31, 31, []uint32{0, 6, all}, false},
		{0, 32, 32, []uint32{0, 6, all}, false},
		{0, 32, 33, []uint32{0, 6, all}, false},
		{1, 64, 65, []uint32{0, 6, all}, false},
		{1, greatest, greatest, []uint32{0, 6, all}, false},
		{1, least, 4, []uint32{0, 6, all}, false},
		{0, 0, 0, []uint32{0, 6, all}, false},
		{0, -1, -1, []uint32{0, 6, all}, false},
		{0, 0, least, []uint32{0, 6, all}, false},
		{2, 4, 4, []uint32{0, 6, all}, false},
		// No such cars.
		{3, 0, 4, []uint32{0, 6, all}, false},
		{-1, 0, 4, []uint32{0, 6, all}, false},
		{64, 0, 4, []uint32{0, 6, all}, false},
		{least, 0, 4, []uint32{0, 6, all}, false},
		{greatest, 0, 4, []uint32{0, 6, all}, false},
		{3, 4, 4, []uint32{0, 6, all}, false},
		{-1, -1, -1, []uint32{0, 6, all}, false},
	} {
		got, ok := of(12, 0, 6, all).Car(c.car, c.floor, c.floors)
		if !same(got, of(12, c.want...)) || ok != c.ok {
			t.Errorf("Car(%d, %d, %d) = %x, %t", c.car, c.floor, c.floors, got, ok)
		}
	}
}

func TestCarWhereThereAreNone(t *testing.T) {
	for _, c := range []calls.Calls{calls.New(0), of(5), {}, {Halls: 5, Cars: []uint32{}}} {
		for _, car := range []int{-1, 0, 1, 63} {
			if got, ok := c.Car(car, 0, 4); !same(got, c) || ok {
				t.Errorf("%v: Car(%d, 0, 4) = %v, %t", c, car, got, ok)
			}
		}
		if got, ok := c.Hall(1, 4); !same(got, of(c.Halls|2)) || !ok {
			t.Errorf("%v: Hall(1, 4) = %v, %t", c, got, ok)
		}
	}
}

func TestAllFloorsAndCars(t *testing.T) {
	for _, c := range []calls.Calls{calls.New(2), of(5, 6, 0), of(1<<31, 1, all), of(all, all, 0x55555555), of(7)} {
		for floors := -3; floors <= 70; floors++ {
			for floor := -35; floor <= 70; floor++ {
				for car := -2; car <= 3; car++ {
					holds(t, c, car, floor, floors, 0, all)
				}
			}
		}
	}
}

func TestStrangeFloorsAndCars(t *testing.T) {
	c := of(0x0f0f0f0f, 0, 0x55555555, all)
	for _, x := range strange {
		for _, y := range strange {
			for _, floors := range append([]int{0, 1, 2, 4, 31, 32, 33}, strange...) {
				holds(t, c, y, x, floors, 100, all)
			}
		}
		holds(t, c, x, 2, 4, 100, all)
		holds(t, c, 1, x, 4, 100, all)
		holds(t, c, 1, 2, x, 100, all)
	}
}

func TestEachOf64Cars(t *testing.T) {
	c := calls.New(64)
	for car := range 64 {
		ahead := c
		next, ok := c.Car(car, car%most, most)
		if !ok {
			t.Fatalf("Car(%d, %d, %d): false", car, car%most, most)
		}
		c = next
		for x := range 64 {
			want := ahead.Cars[x]
			if x == car {
				want = uint32(1) << (car % most)
			}
			if c.Cars[x] != want {
				t.Fatalf("car %d has %#x, as %d was called", x, c.Cars[x], car)
			}
		}
		if c.Halls != 0 || c.Many() != car+1 {
			t.Fatalf("%v: Many is %d", c, c.Many())
		}
	}
	for _, car := range []int{-1, 64, 65, 128} {
		if got, ok := c.Car(car, 0, most); ok || !same(got, c) {
			t.Errorf("Car(%d, 0, %d) = %v, %t", car, most, got, ok)
		}
	}
}

// P22.2

func TestDone(t *testing.T) {
	for _, c := range []struct {
		car, floor int
		halls      bool
		want       calls.Calls
	}{
		{0, 0, false, of(13, 6, 7, all)},
		{0, 0, true, of(12, 6, 7, all)},
		{0, 1, false, of(13, 5, 7, all)},
		{0, 1, true, of(13, 5, 7, all)}, // nobody waits there
		{1, 2, false, of(13, 7, 3, all)},
		{1, 2, true, of(9, 7, 3, all)},
		{1, 3, false, of(13, 7, 7, all)}, // nobody in it wants to there
		{1, 3, true, of(5, 7, 7, all)},
		{2, 31, false, of(13, 7, 7, all>>1)},
		{2, 31, true, of(13, 7, 7, all>>1)},
		{2, 0, true, of(12, 7, 7, all-1)},
		{0, 9, true, of(13, 7, 7, all)},
		// No such floors.
		{0, -1, true, of(13, 7, 7, all)},
		{2, -1, true, of(13, 7, 7, all)},
		{2, 32, true, of(13, 7, 7, all)},
		{2, 33, true, of(13, 7, 7, all)},
		{2, 64, true, of(13, 7, 7, all)},
		{2, least, true, of(13, 7, 7, all)},
		{2, greatest, true, of(13, 7, 7, all)},
		{2, 1 << 32, true, of(13, 7, 7, all)},
		{2, 32, false, of(13, 7, 7, all)},
		// No such cars: of them nothing is done, of halls it is.
		{3, 0, false, of(13, 7, 7, all)},
		{-1, 0, false, of(13, 7, 7, all)},
		{least, 0, false, of(13, 7, 7, all)},
		{greatest, 0, false, of(13, 7, 7, all)},
		{3, 0, true, of(12, 7, 7, all)},
		{-1, 3, true, of(5, 7, 7, all)},
		{64, 1, true, of(13, 7, 7, all)},
		{3, 32, true, of(13, 7, 7, all)},
		{-1, -1, true, of(13, 7, 7, all)},
	} {
		if got := of(13, 7, 7, all).Done(c.car, c.floor, c.halls); !same(got, c.want) {
			t.Errorf("Done(%d, %d, %t) = %x, want %x", c.car, c.floor, c.halls, got, c.want)
		}
	}
}

func TestMany(t *testing.T) {
	for _, c := range []struct {
		calls calls.Calls
		want  int
	}{
		{calls.Calls{}, 0},
		{of(0), 0},
		{of(0, 0, 0), 0},
		{of(1), 1},
		{of(0, 1), 1},
		{of(0, 0, 1<<31), 1},
		{of(1<<31, 0, 0), 1},
		{of(1, 1, 1), 3}, // to one floor, and each counts
		{of(7, 5, 8), 6},
		{of(all), 32},
		{of(all, all, all), 96},
		{of(0, all, 0, 3), 34},
		{of(all, slices.Repeat([]uint32{all}, 64)...), 2080},
	} {
		if x := c.calls.Many(); x != c.want {
			t.Errorf("%x: Many is %d, want %d", c.calls, x, c.want)
		}
	}
}

func TestManyOfAllRows(t *testing.T) {
	for _, a := range rows {
		for _, b := range rows {
			for _, c := range rows {
				l := of(a, b, c)
				if x, want := l.Many(), manyOf(told(l)); x != want {
					t.Errorf("%x: Many is %d, want %d", l, x, want)
				}
			}
		}
	}
}

func TestAllRowsAreDone(t *testing.T) {
	for _, a := range rows {
		for _, b := range rows {
			c := of(a, b, ^b, b^a)
			for floor := -1; floor <= most; floor++ {
				for car := -1; car <= 3; car++ {
					holds(t, c, car, floor, 20, 124, b)
				}
			}
		}
	}
}

// P22.3

func TestNext(t *testing.T) {
	for _, c := range []struct {
		calls    calls.Calls
		car, pos int
		halls    uint32
		want     int
	}{
		// The chapter's examples: 2 and 0, from 9 and 8.
		{of(0, 5), 0, 9, 0, 2},
		{of(0, 5), 0, 8, 0, 0},
		{of(0, 5), 0, 7, 0, 0},
		// At a floor, and about the middle of two.
		{of(0, 7), 0, 8, 0, 1},
		{of(0, 3), 0, 3, 0, 0},
		{of(0, 3), 0, 4, 0, 0},
		{of(0, 3), 0, 5, 0, 1},
		{of(0, 6), 0, 12, 0, 1},
		{of(0, 6), 0, 13, 0, 2},
		{of(0, 1<<31|1), 0, 124, 0, 0},
		{of(0, 1<<31|1), 0, 125, 0, 31},
		{of(0, 1<<31|1), 0, 248, 0, 31},
		{of(0, 1<<31|1), 0, 0, 0, 0},
		{of(0, 1<<31), 0, 0, 0, 31},
		{of(0, 1), 0, 248, 0, 0},
		{of(0, 1<<31|1<<30), 0, 244, 0, 30},
		{of(0, all), 0, 100, 0, 12},
		{of(0, all), 0, 101, 0, 13},
		// Who is in the car goes ahead of who waits, however near that is.
		{of(1, 16), 0, 0, all, 4},
		{of(all, 1), 0, 248, all, 0},
		{of(0, 16, 1), 0, 0, 0, 4},
		{of(0, 16, 1), 1, 0, 0, 0},
		// If nobody is in it: the lowest floor of both, however far it is.
		{of(8, 0), 0, 0, all, 3},
		{of(10, 0), 0, 24, all, 1},
		{of(10, 0), 0, 248, all, 1},
		{of(10, 0), 0, 0, 8, 3},
		{of(10, 0), 0, 0, 9, 3},
		{of(1<<31, 0), 0, 0, 1 << 31, 31},
		{of(1<<31|1, 0), 0, 248, all, 0},
		{of(10, 0, 1), 0, 0, all, 1}, // in another car
		// None.
		{of(0, 0), 0, 0, all, -1},
		{of(10, 0), 0, 8, 0, -1},
		{of(10, 0), 0, 8, 5, -1},
		{of(1<<31, 0), 0, 248, all >> 1, -1},
		{of(0, 0, all), 0, 8, all, -1},
		{calls.New(2), 1, 0, all, -1},
		// Of no such car.
		{of(15, 15), 1, 0, all, -1},
		{of(15, 15), -1, 0, all, -1},
		{of(15, 15), 64, 0, all, -1},
		{of(15, 15), least, 0, all, -1},
		{of(15, 15), greatest, 0, all, -1},
		{of(15, 15), 1 << 32, 0, all, -1},
		{of(15), 0, 0, all, -1},
		{calls.New(0), 0, 0, all, -1},
		{calls.Calls{}, -1, 0, all, -1},
	} {
		if x := c.calls.Next(c.car, c.pos, c.halls); x != c.want {
			t.Errorf("%x: Next(%d, %d, %#x) = %d, want %d", c.calls, c.car, c.pos, c.halls, x, c.want)
		}
	}
}

func TestNextOfAllPairsFromAllPlaces(t *testing.T) {
	for a := range most {
		for b := range most {
			c := of(all, 0, 1<<a|1<<b)
			l := told(c)
			for pos := 0; pos <= top; pos++ {
				if x, want := c.Next(1, pos, all), nextOf(l, 1, pos, setOf(all)); x != want {
					t.Fatalf("floors %d and %d: from %d to %d, want %d", a, b, pos, x, want)
				}
			}
		}
	}
}

func TestNextOfAllRowsFromAllPlaces(t *testing.T) {
	for _, row := range rows {
		for _, halls := range rows {
			c := of(halls, row, 0)
			l := told(c)
			for pos := 0; pos <= top; pos++ {
				for car := -1; car <= 2; car++ {
					if x, want := c.Next(car, pos, row), nextOf(l, car, pos, setOf(row)); x != want {
						t.Fatalf("%x: Next(%d, %d, %#x) = %d, want %d", c, car, pos, row, x, want)
					}
				}
			}
		}
	}
}

func TestNextOfAllHalls(t *testing.T) {
	for a := range most {
		for b := range most {
			for _, row := range rows {
				c := of(1<<a|1<<b, all, 0)
				if x, want := c.Next(1, 8*b, row), nextOf(told(c), 1, 8*b, setOf(row)); x != want {
					t.Fatalf("%x: Next(1, %d, %#x) = %d, want %d", c, 8*b, row, x, want)
				}
				c = of(row, 0)
				if x, want := c.Next(0, 8*b, 1<<a|1<<b), nextOf(told(c), 0, 8*b, setOf(1<<a|1<<b)); x != want {
					t.Fatalf("%x: Next(0, %d, %#x) = %d, want %d", c, 8*b, uint32(1<<a|1<<b), x, want)
				}
			}
		}
	}
}

func TestNextOfOddPlaces(t *testing.T) {
	// Of such a pos nothing is told but that it ends; of who is in no car, and who isn't there, pos is nothing.
	for _, pos := range append([]int{249, 250, 1000}, strange...) {
		for _, row := range rows {
			c := of(12, row, 0)
			c.Next(0, pos, all)
			if x := c.Next(1, pos, all); x != 2 {
				t.Errorf("Next(1, %d, %#x) = %d", pos, uint32(all), x)
			}
			if x := c.Next(2, pos, all); x != -1 {
				t.Errorf("Next(2, %d, %#x) = %d", pos, uint32(all), x)
			}
		}
	}
}

// New memory

// answers are calls that are told of others, all that may be told: with a floor more, with one less, and as they were.
func answers(c calls.Calls) []calls.Calls {
	a, _ := c.Hall(1, 4)
	b, _ := c.Hall(4, 4)
	d, _ := c.Car(1, 0, 4)
	e, _ := c.Car(1, 4, 4)
	f, _ := c.Car(9, 0, 4)
	return []calls.Calls{a, b, d, e, f, c.Done(0, 2, true), c.Done(0, 2, false), c.Done(9, 2, true), c.Done(0, -1, false)}
}

func TestWhatIsHandedInStays(t *testing.T) {
	whole := []uint32{99, 5, 6, 7, 98, 97}
	ahead := slices.Clone(whole)
	c := calls.Calls{Halls: 4, Cars: whole[1:4:6]}
	for range 2 {
		answers(c)
		c.Next(0, 9, 15)
		c.Many()
		if c.Halls != 4 || !slices.Equal(c.Cars, ahead[1:4]) || !slices.Equal(whole, ahead) {
			t.Fatalf("%v, in %v", c, whole)
		}
	}
}

func TestWhatIsToldIsNewMemory(t *testing.T) {
	whole := []uint32{99, 5, 6, 7, 98, 97}
	c := calls.Calls{Halls: 4, Cars: whole[1:4:6]}
	for i := range answers(c) {
		// What is changed of an answer changes neither what was handed in nor any other one.
		l := answers(c)
		kept := make([]calls.Calls, len(l))
		for j := range l {
			kept[j] = cloned(l[j])
		}
		for car := range l[i].Cars {
			l[i].Cars[car] ^= all
		}
		_ = append(l[i].Cars, 1, 2, 3)
		if !same(c, of(4, 5, 6, 7)) || !slices.Equal(whole, []uint32{99, 5, 6, 7, 98, 97}) {
			t.Fatalf("answer %d is changed, and with it %v", i, whole)
		}
		for j := range l {
			if j != i && !same(l[j], kept[j]) {
				t.Errorf("answer %d is changed, and with it answer %d", i, j)
			}
		}
	}
	// Nor does what is changed of what was handed in change an answer.
	l := answers(c)
	kept := make([]calls.Calls, len(l))
	for j := range l {
		kept[j] = cloned(l[j])
	}
	for i := range whole {
		whole[i] ^= all
	}
	for j := range l {
		if !same(l[j], kept[j]) {
			t.Errorf("answer %d is %v, was %v", j, l[j], kept[j])
		}
	}
}

// P22.4

// tells tells of calls of which a car should go where nobody waits, and nobody wants to, or where what is done is told again.
func tells(t *testing.T, c calls.Calls, car, pos int, halls uint32) {
	t.Helper()
	for left := c.Many(); ; left = c.Many() {
		floor := c.Next(car, pos, halls)
		wanted := setOf(c.Cars[car])
		both := setOf(c.Halls & halls)
		if floor == -1 {
			if wanted != (floorSet{}) || both != (floorSet{}) {
				t.Fatalf("%x: Next(%d, %d, %#x) is none", c, car, pos, halls)
			}
			return
		}
		if floor < 0 || floor >= most || !wanted[floor] && !both[floor] {
			t.Fatalf("%x: Next(%d, %d, %#x) is %d", c, car, pos, halls, floor)
		}
		c = c.Done(car, floor, true)
		if c.Many() >= left || setOf(c.Cars[car])[floor] || setOf(c.Halls)[floor] || c.Next(car, pos, halls) == floor {
			t.Fatalf("%x: %d is done, Many is %d, was %d", c, floor, c.Many(), left)
		}
		pos = 8 * floor
	}
}

func TestACarGoesWhereItIsWanted(t *testing.T) {
	for _, a := range rows {
		for _, b := range rows {
			for _, halls := range rows {
				for _, pos := range []int{0, 1, 4, 100, 124, 247, top} {
					tells(t, of(a, b, 0, ^b), 0, pos, halls)
					tells(t, of(a, b, 0, ^b), 1, pos, halls)
				}
			}
		}
	}
}

func TestAsCallsComeAndGo(t *testing.T) {
	for seed := range uint32(200) {
		draw := drawn(seed)
		cars := 1 + draw(64)
		floors := 2 + draw(31)
		c := calls.New(cars)
		l := told(c)
		for range 100 {
			car, floor := draw(cars+2)-1, draw(floors+4)-2
			halls := uint32(draw(1 << 32))
			pos := draw(top + 1)
			holds(t, c, car, floor, floors, pos, halls)
			switch draw(4) {
			case 0:
				c, _ = c.Hall(floor, floors)
				l, _ = hallOf(l, floor, floors)
			case 1, 2:
				c, _ = c.Car(car, floor, floors)
				l, _ = carOf(l, car, floor, floors)
			case 3:
				in := draw(2) == 1
				if to := c.Next(car, pos, halls); to >= 0 {
					floor = to
				}
				c, l = c.Done(car, floor, in), doneOf(l, car, floor, in)
			}
			if !slices.Equal(told(c), l) {
				t.Fatalf("seed %d: %x, want %v", seed, c, l)
			}
			tells(t, c, draw(cars), pos, halls)
		}
	}
}

func FuzzCallsAsTheWordsSay(f *testing.F) {
	f.Add(uint32(8), uint32(5), uint32(0), 0, 2, 4, 9, uint32(15))
	f.Add(uint32(all), uint32(0), uint32(1), 1, 31, 32, 248, uint32(1)<<31)
	f.Add(uint32(0), uint32(0), uint32(all), 2, 32, 33, 124, uint32(all))
	f.Add(uint32(1), uint32(2), uint32(3), -1, least, greatest, 0, uint32(0))
	f.Fuzz(func(t *testing.T, waiting, a, b uint32, car, floor, floors, pos int, halls uint32) {
		pos = max(0, min(pos, top))
		c := of(waiting, a, b)
		kept := cloned(c)
		holds(t, c, car, floor, floors, pos, halls)
		tells(t, c, 0, pos, halls)
		tells(t, c, 1, pos, halls)
		answers(c)
		if !same(c, kept) {
			t.Errorf("%x, was %x", c, kept)
		}
	})
}
