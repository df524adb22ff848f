package car_test

import (
	"math"
	"testing"

	"paternoster/car"
)

const (
	least    = math.MinInt
	greatest = math.MaxInt
)

// asked are speeds, weights and ways that may be asked for, with such as are far beyond both ends.
var asked = []int{least, least + 1, -1 << 32, -1000, -256, -10, -9, -8, -7, -5, -3, -2, -1, 0, 1, 2, 3, 5, 7, 8, 9, 10, 256, 1000, 1 << 32, greatest - 1, greatest}

// someFloors are numbers of floors, and such as count as others.
var someFloors = []int{least, -1, 0, 1, 2, 3, 4, 31, 32, 33, greatest}

// highest is Top, as the promise's words tell it: 0 of the lowest floor, 8 more of each one above it.
func highest(floors int) int {
	place := 0
	for floor := 1; floor < 32 && (floor == 1 || floor < floors); floor++ {
		place += 8
	}
	return place
}

// stepped is Step without brake, as the promise's words tell it, of a Vel of -8 to 8.
func stepped(c car.Car, vel, floors int) car.Car {
	next := c.Vel
	if vel > c.Vel {
		next = c.Vel + 1
	}
	if vel < c.Vel {
		next = c.Vel - 1
	}
	if next > 8 {
		next = 8
	}
	if next < -8 {
		next = -8
	}
	place := c.Pos + next
	if place < 0 {
		return car.Car{Pos: 0, Vel: 0, Load: c.Load}
	}
	if place > highest(floors) {
		return car.Car{Pos: highest(floors), Vel: 0, Load: c.Load}
	}
	return car.Car{Pos: place, Vel: next, Load: c.Load}
}

// places are all places of a shaft and some above it, and far ones of which is told too.
func places() []int {
	l := []int{999, 1000, 1001, 4096, 99999, 999992, 999993, 999999, 1000000}
	for place := 0; place <= 272; place++ {
		l = append(l, place)
	}
	return l
}

// cars are cars of each of these places, at each speed.
func cars() []car.Car {
	var l []car.Car
	for _, place := range places() {
		for vel := -8; vel <= 8; vel++ {
			l = append(l, car.Car{Pos: place, Vel: vel, Load: place%7 - 1})
		}
	}
	return l
}

// P7.1

func TestTop(t *testing.T) {
	for _, c := range []struct{ floors, want int }{
		{2, 8}, {3, 16}, {4, 24}, {9, 64}, {31, 240}, {32, 248},
		// Fewer are as 2, more as 32.
		{1, 8}, {0, 8}, {-1, 8}, {-32, 8}, {least, 8}, {least + 1, 8},
		{33, 248}, {34, 248}, {99, 248}, {1 << 32, 248}, {greatest - 1, 248}, {greatest, 248},
	} {
		if n := car.Top(c.floors); n != c.want {
			t.Errorf("Top(%d) = %d, want %d", c.floors, n, c.want)
		}
	}
	for floors := -3; floors <= 40; floors++ {
		if n, want := car.Top(floors), highest(floors); n != want {
			t.Errorf("Top(%d) = %d, want %d", floors, n, want)
		}
	}
}

func TestLevelAtAFloorAtRestOnly(t *testing.T) {
	for _, c := range []struct {
		pos, vel int
		want     bool
	}{
		{0, 0, true}, {8, 0, true}, {248, 0, true}, {1000000, 0, true},
		{0, 1, false}, {0, -1, false}, {8, 1, false}, {8, -1, false}, {16, 8, false}, {16, -8, false},
		{1, 0, false}, {4, 0, false}, {7, 0, false}, {9, 0, false}, {12, 0, false}, {999999, 0, false},
		{7, 1, false}, {9, -1, false}, {4, -4, false},
	} {
		if got := (car.Car{Pos: c.pos, Vel: c.vel}).Level(); got != c.want {
			t.Errorf("Level of Pos %d, Vel %d = %t", c.pos, c.vel, got)
		}
	}
}

func TestFloor(t *testing.T) {
	for _, c := range []struct{ pos, want int }{
		{0, 0}, {1, 0}, {7, 0}, {8, 1}, {9, 1}, {15, 1}, {16, 2}, {23, 2}, {24, 3}, {247, 30}, {248, 31}, {255, 31}, {999999, 124999}, {1000000, 125000},
	} {
		for _, vel := range []int{-8, -1, 0, 1, 8} {
			if n := (car.Car{Pos: c.pos, Vel: vel, Load: 3}).Floor(); n != c.want {
				t.Errorf("Floor of Pos %d, Vel %d = %d, want %d", c.pos, vel, n, c.want)
			}
		}
	}
}

func TestLevelAndFloorOfEachPlace(t *testing.T) {
	for _, c := range cars() {
		floor := c.Floor()
		if floor*8 > c.Pos || floor*8+8 <= c.Pos {
			t.Errorf("%+v: Floor = %d", c, floor)
		}
		if want := c.Vel == 0 && floor*8 == c.Pos; c.Level() != want {
			t.Errorf("%+v: Level = %t", c, !want)
		}
	}
}

func TestStep(t *testing.T) {
	for _, c := range []struct {
		ahead  car.Car
		vel    int
		floors int
		want   car.Car
	}{
		// As asked for.
		{car.Car{Pos: 7, Vel: 1}, 2, 4, car.Car{Pos: 9, Vel: 2}},
		{car.Car{Pos: 7, Vel: 1}, 1, 4, car.Car{Pos: 8, Vel: 1}},
		{car.Car{Pos: 7, Vel: 1}, 0, 4, car.Car{Pos: 7, Vel: 0}},
		{car.Car{Pos: 7, Vel: -1}, -2, 4, car.Car{Pos: 5, Vel: -2}},
		{car.Car{Pos: 7}, 1, 4, car.Car{Pos: 8, Vel: 1}},
		{car.Car{Pos: 7}, -1, 4, car.Car{Pos: 6, Vel: -1}},
		{car.Car{Pos: 7}, 0, 4, car.Car{Pos: 7}},
		// No more than one above, no less than one below.
		{car.Car{Pos: 7, Vel: 1}, 3, 4, car.Car{Pos: 9, Vel: 2}},
		{car.Car{Pos: 7, Vel: 1}, -1, 4, car.Car{Pos: 7, Vel: 0}},
		{car.Car{Pos: 7, Vel: 1}, -9, 4, car.Car{Pos: 7, Vel: 0}},
		{car.Car{Pos: 7}, greatest, 4, car.Car{Pos: 8, Vel: 1}},
		{car.Car{Pos: 7}, least, 4, car.Car{Pos: 6, Vel: -1}},
		{car.Car{Pos: 100, Vel: 5}, 0, 32, car.Car{Pos: 104, Vel: 4}},
		{car.Car{Pos: 100, Vel: -5}, 0, 32, car.Car{Pos: 96, Vel: -4}},
		// No faster than 8, either way.
		{car.Car{Pos: 100, Vel: 7}, 8, 32, car.Car{Pos: 108, Vel: 8}},
		{car.Car{Pos: 100, Vel: 8}, 9, 32, car.Car{Pos: 108, Vel: 8}},
		{car.Car{Pos: 100, Vel: 8}, greatest, 32, car.Car{Pos: 108, Vel: 8}},
		{car.Car{Pos: 100, Vel: -7}, -8, 32, car.Car{Pos: 92, Vel: -8}},
		{car.Car{Pos: 100, Vel: -8}, -9, 32, car.Car{Pos: 92, Vel: -8}},
		{car.Car{Pos: 100, Vel: -8}, least, 32, car.Car{Pos: 92, Vel: -8}},
		// Just at the ends: it keeps its Vel.
		{car.Car{Pos: 22, Vel: 1}, 2, 4, car.Car{Pos: 24, Vel: 2}},
		{car.Car{Pos: 2, Vel: -1}, -2, 4, car.Car{Pos: 0, Vel: -2}},
		{car.Car{Pos: 240, Vel: 8}, 8, 32, car.Car{Pos: 248, Vel: 8}},
		{car.Car{Pos: 8, Vel: -8}, -8, 32, car.Car{Pos: 0, Vel: -8}},
		// Beyond the ends: it stands there.
		{car.Car{Pos: 23, Vel: 3}, 3, 4, car.Car{Pos: 24}},
		{car.Car{Pos: 23, Vel: 1}, 2, 4, car.Car{Pos: 24}},
		{car.Car{Pos: 24}, 1, 4, car.Car{Pos: 24}},
		{car.Car{Pos: 1, Vel: -1}, -2, 4, car.Car{}},
		{car.Car{}, -1, 4, car.Car{}},
		{car.Car{Pos: 7, Vel: -8}, -8, 4, car.Car{}},
		{car.Car{Pos: 241, Vel: 8}, 8, 32, car.Car{Pos: 248}},
		// A shaft of other numbers of floors.
		{car.Car{Pos: 7}, 1, 0, car.Car{Pos: 8, Vel: 1}},
		{car.Car{Pos: 8}, 1, 0, car.Car{Pos: 8}},
		{car.Car{Pos: 8}, 1, least, car.Car{Pos: 8}},
		{car.Car{Pos: 8}, 1, 2, car.Car{Pos: 8}},
		{car.Car{Pos: 8}, 1, 3, car.Car{Pos: 9, Vel: 1}},
		{car.Car{Pos: 247}, 1, 99, car.Car{Pos: 248, Vel: 1}},
		{car.Car{Pos: 248}, 1, 99, car.Car{Pos: 248}},
		{car.Car{Pos: 248}, 1, greatest, car.Car{Pos: 248}},
		// A place above the shaft.
		{car.Car{Pos: 1000}, 0, 4, car.Car{Pos: 24}},
		{car.Car{Pos: 25, Vel: -1}, -1, 4, car.Car{Pos: 24, Vel: -1}},
		{car.Car{Pos: 1000000, Vel: -8}, -8, 32, car.Car{Pos: 248}},
	} {
		for _, load := range []int{0, 1, 64, -1, least, greatest} {
			c.ahead.Load, c.want.Load = load, load
			if x := c.ahead.Step(c.vel, false, c.floors); x != c.want {
				t.Errorf("%+v: Step(%d, false, %d) = %+v, want %+v", c.ahead, c.vel, c.floors, x, c.want)
			}
		}
	}
}

func TestStepOfEachCarAndSpeed(t *testing.T) {
	for _, c := range cars() {
		for _, vel := range asked {
			for _, floors := range someFloors {
				if x, want := c.Step(vel, false, floors), stepped(c, vel, floors); x != want {
					t.Fatalf("%+v: Step(%d, false, %d) = %+v, want %+v", c, vel, floors, x, want)
				}
			}
		}
	}
}

func TestBrakedItStandsWhereItIs(t *testing.T) {
	for _, c := range cars() {
		for _, vel := range asked {
			for _, floors := range someFloors {
				want := car.Car{Pos: c.Pos, Load: c.Load}
				if x := c.Step(vel, true, floors); x != want {
					t.Fatalf("%+v: Step(%d, true, %d) = %+v, want %+v", c, vel, floors, x, want)
				}
			}
		}
	}
}

func TestStepChangesNothingElse(t *testing.T) {
	c := car.Car{Pos: 7, Vel: 1, Load: 4}
	ahead := c
	for range 3 {
		if x := c.Step(3, false, 4); x != (car.Car{Pos: 9, Vel: 2, Load: 4}) {
			t.Errorf("Step(3, false, 4) = %+v", x)
		}
		if x := c.Step(3, true, 4); x != (car.Car{Pos: 7, Load: 4}) {
			t.Errorf("Step(3, true, 4) = %+v", x)
		}
		if c != ahead {
			t.Fatalf("the car itself is %+v", c)
		}
	}
}

// P7.2

func TestLight(t *testing.T) {
	for _, c := range []struct{ load, weight, want int }{
		{4, 4, -1}, {4, 5, 1}, {4, 3, -1}, {0, 0, -1}, {0, 1, 1}, {1, 1, -1}, {64, 64, -1}, {64, 65, 1}, {63, 64, 1}, {0, -1, -1},
		{0, greatest, 1}, {0, least, -1}, {greatest, greatest, -1}, {least, least, -1}, {least, greatest, 1}, {greatest, least, -1}, {least, 0, 1},
	} {
		for _, pos := range []int{0, 7, 248} {
			for _, vel := range []int{-8, 0, 3} {
				if n := (car.Car{Pos: pos, Vel: vel, Load: c.load}).Light(c.weight); n != c.want {
					t.Errorf("Light(%d) of a load of %d = %d, want %d", c.weight, c.load, n, c.want)
				}
			}
		}
	}
}

func TestNear(t *testing.T) {
	for _, c := range []struct{ pos, dir, want int }{
		{9, 1, 7}, {9, -1, 1}, {7, 1, 1}, {7, -1, 7}, {12, 1, 4}, {12, -1, 4}, {1, 1, 7}, {1, -1, 1}, {247, 1, 1}, {247, -1, 7},
		// Of no way, and at a floor.
		{9, 0, 0}, {7, 0, 0}, {0, 0, 0}, {0, 1, 0}, {0, -1, 0}, {8, 1, 0}, {8, -1, 0}, {248, 1, 0}, {248, -1, 0}, {1000000, 1, 0}, {1000000, -1, 0},
		// Whatever is above 0, or below, is a way.
		{9, 2, 7}, {9, 8, 7}, {9, greatest, 7}, {9, -2, 1}, {9, -8, 1}, {9, least, 1}, {999999, 5, 1}, {999999, -5, 7},
	} {
		for _, vel := range []int{-8, -1, 0, 1, 8} {
			if n := (car.Car{Pos: c.pos, Vel: vel, Load: 3}).Near(c.dir); n != c.want {
				t.Errorf("Near(%d) of Pos %d, Vel %d = %d, want %d", c.dir, c.pos, vel, n, c.want)
			}
		}
	}
}

// nearest is Near, as the promise's words tell it: place by place that way until there is a floor.
func nearest(pos, dir int) int {
	if dir == 0 {
		return 0
	}
	n := 0
	for pos%8 != 0 {
		if dir > 0 {
			pos++
		} else {
			pos--
		}
		n++
	}
	return n
}

func TestNearOfEachPlaceAndWay(t *testing.T) {
	for _, c := range cars() {
		for _, dir := range asked {
			if n, want := c.Near(dir), nearest(c.Pos, dir); n != want {
				t.Fatalf("%+v: Near(%d) = %d, want %d", c, dir, n, want)
			}
		}
	}
}

// P7.3

// within tells of a car that isn't in the shaft, or is faster than any may be.
func within(t *testing.T, c car.Car, floors int) {
	t.Helper()
	if c.Pos < 0 || c.Pos > car.Top(floors) || c.Vel < -8 || c.Vel > 8 {
		t.Fatalf("%d floors: %+v", floors, c)
	}
}

func TestItStaysWithinTheShaft(t *testing.T) {
	for floors := 0; floors <= 34; floors++ {
		for pos := 0; pos <= car.Top(floors); pos++ {
			for vel := -8; vel <= 8; vel++ {
				for _, ask := range asked {
					for _, brake := range []bool{false, true} {
						within(t, car.Car{Pos: pos, Vel: vel}.Step(ask, brake, floors), floors)
					}
				}
			}
		}
	}
}

func TestAWayUpAndDownStaysWithinTheShaft(t *testing.T) {
	for floors := 2; floors <= 32; floors++ {
		c := car.Car{Load: 5}
		for _, ask := range []int{8, greatest, -8, least, 3, -2} {
			// Longer than the whole way takes at a speed of 1.
			for range 300 {
				c = c.Step(ask, false, floors)
				within(t, c, floors)
			}
			end := 0
			if ask > 0 {
				end = car.Top(floors)
			}
			if c != (car.Car{Pos: end, Load: 5}) {
				t.Errorf("%d floors, %d asked for: %+v at the end", floors, ask, c)
			}
		}
	}
}

func TestCarsOfWhichNothingIsTold(t *testing.T) {
	// Some answer; and within the shaft, where it isn't braked.
	for _, pos := range asked {
		for _, vel := range asked {
			for _, ask := range asked {
				c := car.Car{Pos: pos, Vel: vel, Load: ask}
				within(t, c.Step(ask, false, ask), ask)
				c.Step(ask, true, ask)
				c.Level()
				c.Floor()
				c.Near(ask)
				c.Light(ask)
			}
		}
	}
}

func TestBelowTheShaftItIsRoundedDownToo(t *testing.T) {
	for _, c := range []struct{ pos, floor, up, down int }{
		{-1, -1, 1, 7}, {-7, -1, 7, 1}, {-8, -1, 0, 0}, {-9, -2, 1, 7},
	} {
		x := car.Car{Pos: c.pos}
		if x.Floor() != c.floor || x.Near(1) != c.up || x.Near(-1) != c.down || x.Level() != (c.up == 0) {
			t.Errorf("Pos %d: Floor %d, Near %d and %d, Level %t", c.pos, x.Floor(), x.Near(1), x.Near(-1), x.Level())
		}
	}
}

func FuzzStepAsTheWordsSay(f *testing.F) {
	f.Add(7, 1, 4, 3, 4)
	f.Add(23, 3, 0, 3, 4)
	f.Add(0, 0, 64, -1, 2)
	f.Add(1000000, -8, -1, least, greatest)
	f.Fuzz(func(t *testing.T, pos, vel, load, ask, floors int) {
		c := car.Car{Pos: pos, Vel: vel, Load: load}
		x := c.Step(ask, false, floors)
		within(t, x, floors)
		if pos < 0 || pos > 1000000 || vel < -8 || vel > 8 {
			return
		}
		if want := stepped(c, ask, floors); x != want {
			t.Errorf("%+v: Step(%d, false, %d) = %+v, want %+v", c, ask, floors, x, want)
		}
	})
}
