package drive_test

import (
	"math"
	"slices"
	"testing"

	"paternoster/car"
	"paternoster/drive"
	"paternoster/plan"
	"paternoster/rates"
)

const (
	least    = math.MinInt
	greatest = math.MaxInt
)

// some are numbers of all sizes, about 0 and far beyond what is told of.
var some = []int{least, least + 1, -1 << 61, -1 << 32, -1000, -249, -32, -9, -8, -1, 0, 1, 2, 7, 8, 9, 31, 32, 248, 249, 1000, 1 << 32, 1 << 60, 1 << 61, 1<<61 + 1, 1 << 62, greatest - 1, greatest}

// loads are loads of a car, none of which changes how it is driven.
var loads = []int{0, 1, 64, 65, -1, least, greatest}

// asked is what Vel answers.
type asked struct {
	vel   int
	brake bool
}

// vel is Vel, as one answer.
func vel(c car.Car, floor, most int, goes bool) asked {
	v, b := drive.Vel(c, floor, most, goes)
	return asked{v, b}
}

// cars are cars at all places of the highest shaft, at each speed.
func cars() []car.Car {
	var l []car.Car
	for place := 0; place <= 248; place++ {
		for v := -8; v <= 8; v++ {
			l = append(l, car.Car{Pos: place, Vel: v, Load: place % 65})
		}
	}
	return l
}

// placeOf is the place of a floor.
func placeOf(floor int) int {
	place := 0
	for range floor {
		place += 8
	}
	return place
}

// wayOf is Way, as the promise's words tell it.
func wayOf(c car.Car, floor int) int {
	place := placeOf(floor)
	if place > c.Pos {
		return 1
	}
	if place < c.Pos {
		return -1
	}
	return 0
}

// velOf is Vel, as the promise's words tell it.
func velOf(c car.Car, floor, most int, goes bool) asked {
	place := placeOf(floor)
	switch {
	case !goes, place == c.Pos:
		return asked{0, true}
	case place > c.Pos && c.Vel < 0:
		return asked{c.Vel + 1, false}
	case place < c.Pos && c.Vel > 0:
		return asked{c.Vel - 1, false}
	case place > c.Pos:
		n := plan.Next(c.Vel, place-c.Pos, most)
		return asked{n, n == 0}
	default:
		n := plan.Next(-c.Vel, c.Pos-place, most)
		return asked{-n, n == 0}
	}
}

// whatOf is What, as the promise's words tell it, of speeds that have an opposite.
func whatOf(c car.Car, vel int, brake bool) int {
	if brake || vel == 0 {
		return 0
	}
	was := c.Vel
	if was < 0 {
		was = -was
	}
	if vel < 0 {
		vel = -vel
	}
	if vel > was {
		return 1
	}
	if vel < was {
		return 3
	}
	return 2
}

// P13.1

func TestWay(t *testing.T) {
	for _, c := range []struct{ pos, floor, want int }{
		{0, 0, 0}, {0, 1, 1}, {0, 31, 1}, {8, 1, 0}, {8, 0, -1}, {8, 2, 1}, {248, 31, 0}, {248, 30, -1}, {248, 0, -1},
		// Between floors, however near.
		{1, 0, -1}, {7, 0, -1}, {7, 1, 1}, {9, 1, -1}, {9, 2, 1}, {15, 2, 1}, {16, 2, 0}, {17, 2, -1}, {247, 31, 1}, {247, 30, -1},
	} {
		for v := -8; v <= 8; v++ {
			if n := drive.Way(car.Car{Pos: c.pos, Vel: v}, c.floor); n != c.want {
				t.Errorf("Way of Pos %d, Vel %d, to floor %d = %d, want %d", c.pos, v, c.floor, n, c.want)
			}
		}
	}
	for _, c := range cars() {
		for floor := 0; floor <= 31; floor++ {
			if n, want := drive.Way(c, floor), wayOf(c, floor); n != want {
				t.Fatalf("Way(%+v, %d) = %d, want %d", c, floor, n, want)
			}
		}
	}
}

func TestThere(t *testing.T) {
	for _, c := range []struct {
		pos, vel, floor int
		want            bool
	}{
		{0, 0, 0, true}, {8, 0, 1, true}, {16, 0, 2, true}, {248, 0, 31, true},
		// At another floor, or at none.
		{0, 0, 1, false}, {8, 0, 0, false}, {8, 0, 2, false}, {248, 0, 30, false}, {240, 0, 31, false},
		{1, 0, 0, false}, {7, 0, 1, false}, {9, 0, 1, false}, {7, 0, 0, false}, {15, 0, 1, false}, {247, 0, 31, false},
		// Past it, however slowly.
		{8, 1, 1, false}, {8, -1, 1, false}, {0, -1, 0, false}, {0, 8, 0, false}, {248, 1, 31, false}, {248, -8, 31, false},
		{7, 1, 1, false}, {9, -1, 1, false}, {16, -8, 1, false},
	} {
		if x := (car.Car{Pos: c.pos, Vel: c.vel}); drive.There(x, c.floor) != c.want {
			t.Errorf("There(%+v, %d) = %t", x, c.floor, !c.want)
		}
	}
	for _, c := range cars() {
		for floor := 0; floor <= 31; floor++ {
			if want := c.Pos == placeOf(floor) && c.Vel == 0; drive.There(c, floor) != want {
				t.Fatalf("There(%+v, %d) = %t", c, floor, !want)
			}
		}
	}
}

func TestVel(t *testing.T) {
	for _, c := range []struct {
		pos, vel, floor, most int
		want                  asked
	}{
		// From rest, up and down, from floors and between them.
		{0, 0, 1, 2, asked{1, false}}, {0, 0, 31, 8, asked{1, false}}, {8, 0, 0, 8, asked{-1, false}}, {248, 0, 0, 1, asked{-1, false}},
		{7, 0, 1, 8, asked{1, false}}, {9, 0, 1, 8, asked{-1, false}}, {4, 0, 0, 3, asked{-1, false}}, {4, 0, 1, 3, asked{1, false}},
		// One faster, no more than most.
		{1, 1, 31, 8, asked{2, false}}, {1, 1, 31, 1, asked{1, false}}, {21, 7, 31, 8, asked{8, false}}, {28, 8, 31, 8, asked{8, false}}, {50, 5, 31, 5, asked{5, false}},
		{247, -1, 0, 8, asked{-2, false}}, {247, -1, 0, 1, asked{-1, false}}, {227, -7, 0, 8, asked{-8, false}}, {220, -8, 0, 8, asked{-8, false}}, {200, -5, 0, 5, asked{-5, false}},
		// As fast as one can stop from, by the places that are left.
		{1, 1, 1, 8, asked{2, false}}, {5, 1, 1, 8, asked{2, false}}, {6, 1, 1, 8, asked{1, false}}, {7, 1, 1, 8, asked{1, false}},
		{2, 3, 1, 8, asked{3, false}}, {3, 3, 1, 8, asked{2, false}}, {5, 2, 1, 8, asked{2, false}}, {6, 2, 1, 8, asked{1, false}}, {7, 2, 1, 8, asked{1, false}},
		{15, -1, 1, 8, asked{-2, false}}, {11, -1, 1, 8, asked{-2, false}}, {10, -1, 1, 8, asked{-1, false}}, {9, -1, 1, 8, asked{-1, false}},
		{14, -3, 1, 8, asked{-3, false}}, {13, -3, 1, 8, asked{-2, false}}, {11, -2, 1, 8, asked{-2, false}}, {10, -2, 1, 8, asked{-1, false}}, {9, -2, 1, 8, asked{-1, false}},
		// One slower, where it is faster than most by one.
		{50, 6, 31, 5, asked{5, false}}, {200, -2, 0, 1, asked{-1, false}},
		// Braked, where it can't go so slowly that it could stop there, or no faster than most.
		{7, 3, 1, 8, asked{0, true}}, {5, 4, 1, 8, asked{0, true}}, {7, 8, 1, 8, asked{0, true}}, {9, -3, 1, 8, asked{0, true}}, {11, -4, 1, 8, asked{0, true}}, {1, -8, 0, 8, asked{0, true}},
		{50, 7, 31, 5, asked{0, true}}, {200, -3, 0, 1, asked{0, true}},
		// At the place of the floor, standing or past it.
		{8, 0, 1, 4, asked{0, true}}, {8, 1, 1, 4, asked{0, true}}, {8, -1, 1, 4, asked{0, true}}, {0, 0, 0, 1, asked{0, true}}, {248, 8, 31, 8, asked{0, true}}, {0, -8, 0, 8, asked{0, true}},
		// The other way: one nearer to 0, whatever the most is, and however near the floor.
		{5, 2, 0, 4, asked{1, false}}, {5, 1, 0, 4, asked{0, false}}, {5, 8, 0, 1, asked{7, false}}, {9, 8, 1, 8, asked{7, false}}, {9, 1, 1, 8, asked{0, false}}, {248, 3, 30, 2, asked{2, false}},
		{5, -2, 1, 4, asked{-1, false}}, {5, -1, 1, 4, asked{0, false}}, {5, -8, 1, 1, asked{-7, false}}, {7, -8, 1, 8, asked{-7, false}}, {7, -1, 1, 8, asked{0, false}}, {0, -3, 1, 2, asked{-2, false}},
	} {
		for _, load := range loads {
			x := car.Car{Pos: c.pos, Vel: c.vel, Load: load}
			if got := vel(x, c.floor, c.most, true); got != c.want {
				t.Errorf("Vel(%+v, %d, %d, true) = %+v, want %+v", x, c.floor, c.most, got, c.want)
			}
			// Whatever it would be told otherwise: it is braked.
			if got := vel(x, c.floor, c.most, false); got != (asked{0, true}) {
				t.Errorf("Vel(%+v, %d, %d, false) = %+v", x, c.floor, c.most, got)
			}
		}
	}
}

func TestVelAsTheWordsSay(t *testing.T) {
	for _, c := range cars() {
		for floor := 0; floor <= 31; floor++ {
			for most := 1; most <= 8; most++ {
				for _, goes := range []bool{true, false} {
					if got, want := vel(c, floor, most, goes), velOf(c, floor, most, goes); got != want {
						t.Fatalf("Vel(%+v, %d, %d, %t) = %+v, want %+v", c, floor, most, goes, got, want)
					}
				}
			}
		}
	}
}

func TestUpwardsAsDownwards(t *testing.T) {
	// With the shaft turned upside down it is driven just so, the other way.
	for _, c := range cars() {
		for floor := 0; floor <= 31; floor++ {
			for most := 1; most <= 8; most++ {
				got, other := vel(c, floor, most, true), vel(car.Car{Pos: 248 - c.Pos, Vel: -c.Vel}, 31-floor, most, true)
				if got.vel != -other.vel || got.brake != other.brake {
					t.Fatalf("Vel(%+v, %d, %d, true) = %+v, and the other way %+v", c, floor, most, got, other)
				}
			}
		}
	}
}

// P13.2

func TestWhat(t *testing.T) {
	for _, c := range []struct {
		was, vel int
		want     int
	}{
		{0, 0, rates.Rest}, {1, 0, rates.Rest}, {-1, 0, rates.Rest}, {8, 0, rates.Rest}, {-8, 0, rates.Rest},
		{0, 1, rates.Gain}, {0, -1, rates.Gain}, {1, 2, rates.Gain}, {-1, -2, rates.Gain}, {7, 8, rates.Gain}, {-7, -8, rates.Gain},
		{2, 1, rates.Slow}, {-2, -1, rates.Slow}, {8, 7, rates.Slow}, {-8, -7, rates.Slow}, {8, 1, rates.Slow}, {-8, -1, rates.Slow},
		{1, 1, rates.Even}, {-1, -1, rates.Even}, {8, 8, rates.Even}, {-8, -8, rates.Even},
		// Signs don't count.
		{1, -1, rates.Even}, {-1, 1, rates.Even}, {8, -8, rates.Even}, {-8, 8, rates.Even}, {1, -2, rates.Gain}, {-1, 2, rates.Gain}, {2, -1, rates.Slow}, {-2, 1, rates.Slow}, {-8, 1, rates.Slow}, {8, -1, rates.Slow}, {1, -8, rates.Gain}, {-1, 8, rates.Gain},
		// Faster than any car goes.
		{8, 9, rates.Gain}, {8, -9, rates.Gain}, {-8, 9, rates.Gain}, {-8, -9, rates.Gain}, {0, 256, rates.Gain}, {3, 1 << 32, rates.Gain}, {-3, -1 << 32, rates.Gain},
		{8, greatest, rates.Gain}, {-8, greatest, rates.Gain}, {0, greatest, rates.Gain}, {8, least + 1, rates.Gain},
		{8, least, rates.Gain}, {-8, least, rates.Gain}, {0, least, rates.Gain}, {1, least, rates.Gain},
	} {
		for _, pos := range []int{0, 1, 8, 248} {
			for _, load := range loads {
				x := car.Car{Pos: pos, Vel: c.was, Load: load}
				if n := drive.What(x, c.vel, false); n != c.want {
					t.Errorf("What(%+v, %d, false) = %d, want %d", x, c.vel, n, c.want)
				}
				if n := drive.What(x, c.vel, true); n != rates.Rest {
					t.Errorf("What(%+v, %d, true) = %d", x, c.vel, n)
				}
			}
		}
	}
}

func TestWhatAsTheWordsSay(t *testing.T) {
	for _, c := range cars() {
		for v := -20; v <= 20; v++ {
			for _, brake := range []bool{true, false} {
				if n, want := drive.What(c, v, brake), whatOf(c, v, brake); n != want {
					t.Fatalf("What(%+v, %d, %t) = %d, want %d", c, v, brake, n, want)
				}
			}
		}
	}
}

// P13.3

// run is the Vels of a car that is driven to a floor, tick by tick, and where it is then; until it is There, or it takes longer than any way may.
func run(c car.Car, floor, most, floors int) ([]int, car.Car) {
	var l []int
	for len(l) < 300 && (len(l) == 0 || !drive.There(c, floor)) {
		v, brake := drive.Vel(c, floor, most, true)
		c = c.Step(v, brake, floors)
		l = append(l, c.Vel)
	}
	return l, c
}

func TestARun(t *testing.T) {
	for _, c := range []struct {
		pos, floor, most int
		want             []int
	}{
		{0, 1, 2, []int{1, 2, 2, 2, 1, 0}}, {8, 0, 2, []int{-1, -2, -2, -2, -1, 0}},
		{0, 1, 1, []int{1, 1, 1, 1, 1, 1, 1, 1, 0}}, {0, 1, 8, []int{1, 2, 2, 2, 1, 0}},
		{0, 2, 8, []int{1, 2, 3, 4, 3, 2, 1, 0}}, {16, 0, 8, []int{-1, -2, -3, -4, -3, -2, -1, 0}}, {0, 2, 3, []int{1, 2, 3, 3, 3, 2, 1, 1, 0}},
		{7, 1, 8, []int{1, 0}}, {6, 1, 8, []int{1, 1, 0}}, {9, 1, 8, []int{-1, 0}}, {11, 1, 8, []int{-1, -1, -1, 0}}, {12, 1, 8, []int{-1, -2, -1, 0}},
		// At the floor already: it is braked, and that is all.
		{8, 1, 8, []int{0}}, {0, 0, 1, []int{0}}, {248, 31, 3, []int{0}},
	} {
		l, end := run(car.Car{Pos: c.pos, Load: 5}, c.floor, c.most, 32)
		if !slices.Equal(l, c.want) || end != (car.Car{Pos: placeOf(c.floor), Load: 5}) {
			t.Errorf("from %d to floor %d, %d at most: %v, then %+v, want %v", c.pos, c.floor, c.most, l, end, c.want)
		}
	}
}

// oneWay tells whether all ticks of a run but its last one go that way, no faster than most, and no other than one faster or slower than the one ahead.
func oneWay(l []int, way, most int) bool {
	was := 0
	for i, v := range l {
		v *= way
		if d := v - was; d < -1 || d > 1 || v > most || v < 1 && i < len(l)-1 {
			return false
		}
		was = v
	}
	return was == 0
}

func TestFromRestToRest(t *testing.T) {
	for place := 0; place <= 248; place++ {
		for floor := 0; floor <= 31; floor++ {
			for most := 1; most <= 8; most++ {
				c := car.Car{Pos: place, Load: 3}
				way := wayOf(c, floor)
				left := (placeOf(floor) - place) * way
				l, end := run(c, floor, most, 32)
				if end != (car.Car{Pos: placeOf(floor), Load: 3}) || !drive.There(end, floor) || drive.Way(end, floor) != 0 {
					t.Fatalf("from %d to floor %d, %d at most: %v, then %+v", place, floor, most, l, end)
				}
				if want := plan.Ticks(left, most) + 1; len(l) != want || !oneWay(l, way, most) {
					t.Fatalf("from %d to floor %d, %d at most: %v, %d ticks, want %d", place, floor, most, l, len(l), want)
				}
				// And no tick of it needs more of the shaft than the way itself.
				if low, _ := run(c, floor, most, max(floor, (place+7)/8)+1); !slices.Equal(low, l) {
					t.Fatalf("from %d to floor %d, %d at most: %v, and in a shaft that ends there %v", place, floor, most, l, low)
				}
			}
		}
	}
}

func TestWhatIsDoneOnARun(t *testing.T) {
	// It gains, goes evenly, and slows down; and at last it rests.
	for _, c := range []struct {
		pos, floor, most int
		want             []int
	}{
		{0, 1, 2, []int{rates.Gain, rates.Gain, rates.Even, rates.Even, rates.Slow, rates.Rest}},
		{16, 0, 8, []int{rates.Gain, rates.Gain, rates.Gain, rates.Gain, rates.Slow, rates.Slow, rates.Slow, rates.Rest}},
		{6, 1, 8, []int{rates.Gain, rates.Even, rates.Rest}},
		{8, 1, 8, []int{rates.Rest}},
	} {
		x := car.Car{Pos: c.pos}
		for i, want := range c.want {
			v, brake := drive.Vel(x, c.floor, c.most, true)
			if n := drive.What(x, v, brake); n != want {
				t.Errorf("from %d to floor %d, tick %d, at %+v: %d, want %d", c.pos, c.floor, i, x, n, want)
			}
			x = x.Step(v, brake, 32)
		}
		if !drive.There(x, c.floor) {
			t.Errorf("from %d to floor %d: %+v", c.pos, c.floor, x)
		}
	}
}

func TestHoweverItGoesItComesThere(t *testing.T) {
	// From any speed, the other way too: it turns, or is braked, and comes to the floor.
	for _, c := range cars() {
		for _, floor := range []int{0, 1, 15, 30, 31} {
			for _, most := range []int{1, 2, 8} {
				if l, end := run(c, floor, most, 32); end != (car.Car{Pos: placeOf(floor), Load: c.Load}) {
					t.Fatalf("from %+v to floor %d, %d at most: %v, then %+v", c, floor, most, l, end)
				}
			}
		}
	}
}

func TestOfWhichNothingIsTold(t *testing.T) {
	// Some answer.
	for _, a := range some {
		for _, b := range some {
			for _, c := range []car.Car{{Pos: a, Vel: b, Load: a}, {Pos: a}, {Pos: 8, Vel: a}, {Pos: 8, Vel: 1}, {Pos: 9, Vel: -8, Load: a}} {
				for _, n := range some {
					drive.Way(c, n)
					drive.There(c, n)
					drive.What(c, n, false)
					drive.What(c, n, true)
					drive.Vel(c, n, b, true)
					drive.Vel(c, b, n, true)
					// Whatever else is handed in: unless goes is told it is braked.
					if got := vel(c, n, b, false); got != (asked{0, true}) {
						t.Fatalf("Vel(%+v, %d, %d, false) = %+v", c, n, b, got)
					}
				}
			}
		}
	}
}

func FuzzAsTheWordsSay(f *testing.F) {
	f.Add(0, 0, 1, 2, true, 1)
	f.Add(5, 2, 0, 4, true, -1)
	f.Add(248, -8, 31, 8, false, 0)
	f.Add(greatest, least, least, least, true, least)
	f.Fuzz(func(t *testing.T, pos, was, floor, most int, goes bool, next int) {
		c := car.Car{Pos: pos, Vel: was}
		got, way, there, what := vel(c, floor, most, goes), drive.Way(c, floor), drive.There(c, floor), drive.What(c, next, !goes)
		if pos < 0 || pos > 248 || was < -8 || was > 8 || floor < 0 || floor > 31 || most < 1 || most > 8 {
			return
		}
		if want := velOf(c, floor, most, goes); got != want {
			t.Errorf("Vel(%+v, %d, %d, %t) = %+v, want %+v", c, floor, most, goes, got, want)
		}
		if want := wayOf(c, floor); way != want || there != (want == 0 && was == 0) {
			t.Errorf("to floor %d of %+v: Way %d, There %t", floor, c, way, there)
		}
		if want := whatOf(c, next, !goes); next != least && what != want {
			t.Errorf("What(%+v, %d, %t) = %d, want %d", c, next, !goes, what, want)
		}
	})
}
