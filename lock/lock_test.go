package lock_test

import (
	"math"
	"testing"

	"paternoster/car"
	"paternoster/leaf"
	"paternoster/lock"
)

const (
	least    = math.MinInt
	greatest = math.MaxInt
)

// some are numbers of all sizes, about 0 and far beyond what is told of.
var some = []int{least, least + 1, -1 << 32, -1000, -256, -17, -9, -8, -1, 0, 1, 2, 3, 7, 8, 9, 16, 17, 256, 1000000, 1000001, 1 << 32, greatest - 1, greatest}

// speeds are what may be asked for as a speed.
var speeds = []int{0, 1, -1, 2, -2, 5, -5, 8, -8, 9, -9, greatest, least}

// whats are what may be asked for as what is done with doors: all three that there are, and others.
var whats = []int{leaf.Hold, leaf.Opens, leaf.Shuts, 3, -1, -2, 4, 9, 255, 256, 257, 258, 1<<32 + 1, 1<<32 + 2, least, least + 1, greatest - 1, greatest}

// leaves are doors of each width, open as far as can be told of.
func leaves() []leaf.Leaf {
	var l []leaf.Leaf
	for width := 1; width <= 16; width++ {
		for open := 0; open <= width; open++ {
			l = append(l, leaf.Leaf{Open: open, Width: width})
		}
	}
	return l
}

// cars are cars of all places of the highest shaft, some above it, and far ones, at each speed.
func cars() []car.Car {
	places := []int{256, 257, 999, 1000, 99999, 999992, 999993, 999999, 1000000}
	for place := 0; place <= 249; place++ {
		places = append(places, place)
	}
	var l []car.Car
	for _, place := range places {
		for vel := -8; vel <= 8; vel++ {
			l = append(l, car.Car{Pos: place, Vel: vel, Load: place % 65})
		}
	}
	return l
}

// shut tells whether doors are shut, as chapter 8's words tell it.
func shut(l leaf.Leaf) bool { return l.Open == 0 }

// level tells whether a car is Level, as chapter 7's words tell it.
func level(c car.Car) bool { return c.Vel == 0 && c.Pos&7 == 0 }

// deed is what Does answers.
type deed struct {
	vel   int
	brake bool
	what  int
}

// does is Does, as one answer.
func does(c car.Car, l leaf.Leaf, vel int, brake bool, what int) deed {
	v, b, w := lock.Does(c, l, vel, brake, what)
	return deed{v, b, w}
}

// doesOf is Does, as the promise's words tell it.
func doesOf(c car.Car, l leaf.Leaf, vel int, brake bool, what int) deed {
	d := deed{vel: vel, brake: brake, what: 0}
	if !shut(l) {
		d.vel, d.brake = 0, true
	}
	if what == 2 || what == 1 && level(c) && d.brake {
		d.what = what
	}
	return d
}

// each goes through all that may be asked for of these cars and doors.
func each(cars []car.Car, leaves []leaf.Leaf, vels, whats []int, f func(c car.Car, l leaf.Leaf, vel int, brake bool, what int)) {
	for _, c := range cars {
		for _, l := range leaves {
			for _, vel := range vels {
				for _, what := range whats {
					f(c, l, vel, false, what)
					f(c, l, vel, true, what)
				}
			}
		}
	}
}

// asTheWordsSay tells of all that Does answers otherwise than the words.
func asTheWordsSay(t *testing.T, cars []car.Car, leaves []leaf.Leaf, vels, whats []int) {
	t.Helper()
	each(cars, leaves, vels, whats, func(c car.Car, l leaf.Leaf, vel int, brake bool, what int) {
		if d, want := does(c, l, vel, brake, what), doesOf(c, l, vel, brake, what); d != want {
			t.Fatalf("Does(%+v, %+v, %d, %t, %d) = %+v, want %+v", c, l, vel, brake, what, d, want)
		}
	})
}

// P12.1

func TestMoves(t *testing.T) {
	for _, c := range []struct {
		open, width int
		want        bool
	}{
		{0, 1, true}, {1, 1, false}, {0, 4, true}, {1, 4, false}, {2, 4, false}, {3, 4, false}, {4, 4, false}, {0, 16, true}, {1, 16, false}, {15, 16, false}, {16, 16, false},
	} {
		if l := (leaf.Leaf{Open: c.open, Width: c.width}); lock.Moves(l) != c.want {
			t.Errorf("Moves(%+v) = %t", l, !c.want)
		}
	}
	for _, l := range leaves() {
		if lock.Moves(l) != shut(l) {
			t.Errorf("Moves(%+v) = %t", l, !shut(l))
		}
	}
}

func TestOpens(t *testing.T) {
	for _, c := range []struct {
		pos, vel int
		want     bool
	}{
		{0, 0, true}, {8, 0, true}, {16, 0, true}, {248, 0, true}, {1000000, 0, true},
		// Between floors.
		{1, 0, false}, {4, 0, false}, {7, 0, false}, {9, 0, false}, {12, 0, false}, {15, 0, false}, {247, 0, false}, {999999, 0, false},
		// Past a floor, however slowly.
		{0, 1, false}, {8, 1, false}, {8, -1, false}, {8, 8, false}, {8, -8, false}, {248, -1, false}, {1000000, -1, false},
		{9, 1, false}, {7, -1, false},
	} {
		for _, load := range []int{0, 1, 64, -1, least, greatest} {
			if x := (car.Car{Pos: c.pos, Vel: c.vel, Load: load}); lock.Opens(x) != c.want {
				t.Errorf("Opens(%+v) = %t", x, !c.want)
			}
		}
	}
	for _, c := range cars() {
		if lock.Opens(c) != level(c) {
			t.Errorf("Opens(%+v) = %t", c, !level(c))
		}
	}
}

func TestSafe(t *testing.T) {
	for _, c := range []struct {
		pos, vel, open, width int
		want                  bool
	}{
		// At a floor, whatever its doors are.
		{8, 0, 0, 4, true}, {8, 0, 1, 4, true}, {8, 0, 3, 4, true}, {8, 0, 4, 4, true}, {0, 0, 1, 1, true}, {248, 0, 16, 16, true},
		// Anywhere, and however fast, with shut doors.
		{9, 0, 0, 4, true}, {9, 1, 0, 4, true}, {8, 1, 0, 4, true}, {8, -8, 0, 4, true}, {12, -3, 0, 1, true}, {247, 8, 0, 16, true},
		// Neither the one nor the other.
		{9, 0, 1, 4, false}, {9, 0, 4, 4, false}, {7, 0, 1, 4, false}, {12, 0, 2, 4, false}, {1, 0, 1, 1, false},
		{8, 1, 1, 4, false}, {8, -1, 4, 4, false}, {0, 1, 1, 4, false}, {9, 1, 1, 4, false}, {12, -8, 16, 16, false},
	} {
		x, l := car.Car{Pos: c.pos, Vel: c.vel}, leaf.Leaf{Open: c.open, Width: c.width}
		if lock.Safe(x, l) != c.want {
			t.Errorf("Safe(%+v, %+v) = %t", x, l, !c.want)
		}
	}
	for _, c := range cars() {
		for _, l := range leaves() {
			if want := shut(l) || level(c); lock.Safe(c, l) != want {
				t.Fatalf("Safe(%+v, %+v) = %t", c, l, !want)
			}
		}
	}
}

// P12.2

func TestDoes(t *testing.T) {
	closed, ajar, wide := leaf.Leaf{Width: 2}, leaf.Leaf{Open: 1, Width: 2}, leaf.Leaf{Open: 2, Width: 2}
	at, off, past := car.Car{Pos: 8}, car.Car{Pos: 9}, car.Car{Pos: 8, Vel: 1}
	for _, c := range []struct {
		c     car.Car
		l     leaf.Leaf
		vel   int
		brake bool
		what  int
		want  deed
	}{
		// With open doors it is braked, whatever is asked for; and as it is braked they may open at a floor.
		{at, ajar, 5, false, leaf.Opens, deed{0, true, leaf.Opens}}, {at, wide, 5, false, leaf.Opens, deed{0, true, leaf.Opens}},
		{at, ajar, 5, true, leaf.Opens, deed{0, true, leaf.Opens}}, {at, ajar, 0, false, leaf.Opens, deed{0, true, leaf.Opens}}, {at, ajar, 0, true, leaf.Opens, deed{0, true, leaf.Opens}},
		{at, ajar, -5, false, leaf.Shuts, deed{0, true, leaf.Shuts}}, {at, wide, -5, true, leaf.Shuts, deed{0, true, leaf.Shuts}},
		{at, ajar, 8, false, leaf.Hold, deed{0, true, leaf.Hold}}, {at, wide, greatest, false, leaf.Hold, deed{0, true, leaf.Hold}}, {at, wide, least, true, 7, deed{0, true, leaf.Hold}},
		// No further, where there is no floor; but shut they may.
		{off, ajar, 1, false, leaf.Opens, deed{0, true, leaf.Hold}}, {off, wide, 1, true, leaf.Opens, deed{0, true, leaf.Hold}},
		{past, ajar, 0, false, leaf.Opens, deed{0, true, leaf.Hold}}, {past, wide, 0, true, leaf.Opens, deed{0, true, leaf.Hold}},
		{off, ajar, 1, false, leaf.Shuts, deed{0, true, leaf.Shuts}}, {past, wide, 1, false, leaf.Shuts, deed{0, true, leaf.Shuts}}, {off, wide, 2, true, leaf.Hold, deed{0, true, leaf.Hold}},
		// With shut doors it goes as is asked for; they open only if it is braked, not if it merely stands.
		{at, closed, 5, false, leaf.Opens, deed{5, false, leaf.Hold}}, {at, closed, -5, false, leaf.Opens, deed{-5, false, leaf.Hold}}, {at, closed, 0, false, leaf.Opens, deed{0, false, leaf.Hold}},
		{at, closed, 0, true, leaf.Opens, deed{0, true, leaf.Opens}}, {at, closed, 5, true, leaf.Opens, deed{5, true, leaf.Opens}}, {at, closed, -9, true, leaf.Opens, deed{-9, true, leaf.Opens}},
		{off, closed, 0, true, leaf.Opens, deed{0, true, leaf.Hold}}, {off, closed, 3, false, leaf.Opens, deed{3, false, leaf.Hold}},
		{past, closed, 0, true, leaf.Opens, deed{0, true, leaf.Hold}}, {past, closed, 2, false, leaf.Opens, deed{2, false, leaf.Hold}},
		{at, closed, 2, false, leaf.Shuts, deed{2, false, leaf.Shuts}}, {off, closed, 2, false, leaf.Shuts, deed{2, false, leaf.Shuts}}, {past, closed, 2, true, leaf.Shuts, deed{2, true, leaf.Shuts}},
		{at, closed, 2, false, leaf.Hold, deed{2, false, leaf.Hold}}, {off, closed, -2, true, leaf.Hold, deed{-2, true, leaf.Hold}},
		// However fast it is asked to go.
		{off, closed, greatest, false, leaf.Hold, deed{greatest, false, leaf.Hold}}, {past, closed, least, false, leaf.Shuts, deed{least, false, leaf.Shuts}}, {at, closed, 9, true, leaf.Hold, deed{9, true, leaf.Hold}},
		// What is none of these is Hold.
		{at, closed, 0, true, 3, deed{0, true, leaf.Hold}}, {at, closed, 0, true, -1, deed{0, true, leaf.Hold}}, {at, ajar, 0, true, 9, deed{0, true, leaf.Hold}},
		{at, closed, 1, false, 257, deed{1, false, leaf.Hold}}, {at, closed, 0, true, 1<<32 + 1, deed{0, true, leaf.Hold}}, {at, ajar, 0, true, 1<<32 + 2, deed{0, true, leaf.Hold}},
		{off, ajar, 0, true, greatest, deed{0, true, leaf.Hold}}, {past, closed, 1, false, least, deed{1, false, leaf.Hold}},
	} {
		if d := does(c.c, c.l, c.vel, c.brake, c.what); d != c.want {
			t.Errorf("Does(%+v, %+v, %d, %t, %d) = %+v, want %+v", c.c, c.l, c.vel, c.brake, c.what, d, c.want)
		}
	}
}

func TestWithOpenDoorsItIsBraked(t *testing.T) {
	each(cars(), []leaf.Leaf{{Open: 1, Width: 1}, {Open: 1, Width: 16}, {Open: 9, Width: 16}, {Open: 16, Width: 16}}, speeds, whats, func(c car.Car, l leaf.Leaf, vel int, brake bool, what int) {
		if d := does(c, l, vel, brake, what); d.vel != 0 || !d.brake {
			t.Fatalf("Does(%+v, %+v, %d, %t, %d) = %+v", c, l, vel, brake, what, d)
		}
	})
}

func TestDoesOfEachCar(t *testing.T) {
	asTheWordsSay(t, cars(), []leaf.Leaf{{Open: 0, Width: 1}, {Open: 1, Width: 1}, {Open: 0, Width: 4}, {Open: 1, Width: 4}, {Open: 4, Width: 4}}, speeds, whats)
}

func TestDoesOfAllDoors(t *testing.T) {
	var few []car.Car
	for _, c := range cars() {
		if c.Pos <= 17 || c.Pos >= 247 {
			few = append(few, c)
		}
	}
	asTheWordsSay(t, few, leaves(), []int{0, 1, -8, greatest}, []int{leaf.Hold, leaf.Opens, leaf.Shuts, 3, -1})
}

func TestDoesOfEachLoadTheSame(t *testing.T) {
	for _, load := range some {
		asTheWordsSay(t, []car.Car{{Pos: 8, Load: load}, {Pos: 9, Load: load}, {Pos: 8, Vel: -1, Load: load}}, leaves(), speeds, whats)
	}
}

func TestOfWhichNothingIsTold(t *testing.T) {
	// Some answer.
	for _, a := range some {
		for _, b := range some {
			c, l := car.Car{Pos: a, Vel: b, Load: a}, leaf.Leaf{Open: a, Width: b}
			lock.Moves(l)
			lock.Opens(c)
			lock.Safe(c, l)
			for _, x := range []car.Car{c, {Pos: 8}, {Pos: 9, Vel: 1}} {
				for _, y := range []leaf.Leaf{l, {Width: 2}, {Open: 1, Width: 2}} {
					for _, n := range some {
						lock.Does(x, y, n, false, n)
						lock.Does(x, y, n, true, n)
					}
				}
			}
		}
	}
}

// P12.3

// pair is a car and its doors.
type pair struct {
	c car.Car
	l leaf.Leaf
}

// on is a pair a tick on, of which that is done that Does lets be done.
func (p pair) on(vel int, brake bool, what int, blocked bool, floors int) pair {
	d := does(p.c, p.l, vel, brake, what)
	return pair{p.c.Step(d.vel, d.brake, floors), p.l.Step(d.what, blocked)}
}

// safe tells whether a pair is Safe, as the words tell it.
func (p pair) safe() bool { return shut(p.l) || level(p.c) }

// may tells whether a pair that was Safe may be another one a tick on: it is Safe, no car moved with open doors, and no doors opened where there is no floor.
func (p pair) may(next pair) bool {
	moved := next.c.Pos != p.c.Pos || next.c.Vel != 0
	opened := next.l.Open > p.l.Open
	return next.safe() && lock.Safe(next.c, next.l) && !(moved && !(shut(p.l) && shut(next.l))) && !(opened && !(level(p.c) && level(next.c)))
}

func TestWhatIsSafeStaysSo(t *testing.T) {
	// Each pair that is Safe, in shafts of a few heights, and each thing that may be asked for.
	for _, floors := range []int{2, 3, 32} {
		var within []car.Car
		for _, c := range cars() {
			if c.Pos <= car.Top(floors) {
				within = append(within, c)
			}
		}
		doors := []leaf.Leaf{{Open: 0, Width: 1}, {Open: 1, Width: 1}, {Open: 0, Width: 3}, {Open: 1, Width: 3}, {Open: 2, Width: 3}, {Open: 3, Width: 3}}
		each(within, doors, speeds, whats, func(c car.Car, l leaf.Leaf, vel int, brake bool, what int) {
			p := pair{c, l}
			if !p.safe() {
				return
			}
			for _, blocked := range []bool{false, true} {
				if x := p.on(vel, brake, what, blocked, floors); !p.may(x) {
					t.Fatalf("%d floors, %+v, of %d, %t, %d, blocked %t: %+v", floors, p, vel, brake, what, blocked, x)
				}
			}
		})
	}
}

func TestDoorsOfEachWidthStaySafe(t *testing.T) {
	for _, c := range []car.Car{{Pos: 8}, {Pos: 9}, {Pos: 8, Vel: 1}, {Pos: 8, Vel: -1}, {Pos: 7, Vel: 1}, {Pos: 9, Vel: -1}} {
		each([]car.Car{c}, leaves(), speeds, whats, func(c car.Car, l leaf.Leaf, vel int, brake bool, what int) {
			if p := (pair{c, l}); p.safe() && !p.may(p.on(vel, brake, what, false, 4)) {
				t.Fatalf("%+v, of %d, %t, %d: %+v", p, vel, brake, what, p.on(vel, brake, what, false, 4))
			}
		})
	}
}

// mixed goes through numbers, always the same ones.
func mixed(times int, f func(n uint64)) {
	x := uint64(88172645463325252)
	for range times {
		x ^= x << 13
		x ^= x >> 7
		x ^= x << 17
		f(x)
	}
}

func TestALongWay(t *testing.T) {
	// Whatever is asked for, for long: never unsafe; and it goes, and its doors open and shut, many times.
	for _, width := range []int{1, 2, 5} {
		p := pair{car.Car{}, leaf.Leaf{Open: width, Width: width}}
		moved, opened, shuts := 0, 0, 0
		ask, times := uint64(0), 0
		mixed(300000, func(n uint64) {
			if times--; times < 0 {
				// What is asked for stays so for a few ticks: else it would hardly ever go.
				ask, times = n, int(n>>40%9)
			}
			next := p.on(int(ask%7)-3, ask>>8%4 == 0, int(ask>>16%5)-1, n>>24%4 == 0, 3)
			if !p.may(next) {
				t.Fatalf("%+v: %+v", p, next)
			}
			if next.c.Pos != p.c.Pos {
				moved++
			}
			if next.l.Open > p.l.Open {
				opened++
			}
			if next.l.Open < p.l.Open {
				shuts++
			}
			p = next
		})
		if moved < 1000 || opened < 1000 || shuts < 1000 {
			t.Errorf("width %d: it moved %d times, its doors opened %d times, and shut %d times", width, moved, opened, shuts)
		}
	}
}

func TestARunFromFloorToFloor(t *testing.T) {
	p := pair{car.Car{}, leaf.Leaf{Open: 2, Width: 2}}
	for i, c := range []struct {
		vel   int
		brake bool
		what  int
		want  pair
	}{
		// It is let go only behind the tick in which its doors were shut.
		{1, false, leaf.Shuts, pair{car.Car{}, leaf.Leaf{Open: 1, Width: 2}}},
		{1, false, leaf.Shuts, pair{car.Car{}, leaf.Leaf{Width: 2}}},
		{1, false, leaf.Shuts, pair{car.Car{Pos: 1, Vel: 1}, leaf.Leaf{Width: 2}}},
		{2, false, leaf.Opens, pair{car.Car{Pos: 3, Vel: 2}, leaf.Leaf{Width: 2}}},
		{2, false, leaf.Opens, pair{car.Car{Pos: 5, Vel: 2}, leaf.Leaf{Width: 2}}},
		{2, false, leaf.Opens, pair{car.Car{Pos: 7, Vel: 2}, leaf.Leaf{Width: 2}}},
		{1, false, leaf.Opens, pair{car.Car{Pos: 8, Vel: 1}, leaf.Leaf{Width: 2}}},
		// At the floor, but not Level yet; then braked; then the doors open.
		{0, true, leaf.Opens, pair{car.Car{Pos: 8}, leaf.Leaf{Width: 2}}},
		{0, true, leaf.Opens, pair{car.Car{Pos: 8}, leaf.Leaf{Open: 1, Width: 2}}},
		// Ajar it doesn't go on.
		{3, false, leaf.Opens, pair{car.Car{Pos: 8}, leaf.Leaf{Open: 2, Width: 2}}},
		{3, false, leaf.Hold, pair{car.Car{Pos: 8}, leaf.Leaf{Open: 2, Width: 2}}},
	} {
		if p = p.on(c.vel, c.brake, c.what, false, 3); p != c.want {
			t.Fatalf("tick %d: %+v, want %+v", i, p, c.want)
		}
	}
}

func FuzzAsTheWordsSay(f *testing.F) {
	f.Add(8, 0, 1, 2, 5, false, leaf.Opens)
	f.Add(8, 0, 0, 2, 0, true, leaf.Opens)
	f.Add(9, 1, 0, 16, -8, false, leaf.Shuts)
	f.Add(greatest, least, -1, least, greatest, true, least)
	f.Fuzz(func(t *testing.T, pos, vel, open, width, ask int, brake bool, what int) {
		p := pair{car.Car{Pos: pos, Vel: vel}, leaf.Leaf{Open: open, Width: width}}
		d := does(p.c, p.l, ask, brake, what)
		if pos < 0 || pos > 1000000 || vel < -8 || vel > 8 || width < 1 || width > 16 || open < 0 || open > width {
			return
		}
		if want := doesOf(p.c, p.l, ask, brake, what); d != want {
			t.Errorf("Does(%+v, %+v, %d, %t, %d) = %+v, want %+v", p.c, p.l, ask, brake, what, d, want)
		}
		if lock.Safe(p.c, p.l) != p.safe() || p.safe() && pos <= car.Top(32) && !p.may(p.on(ask, brake, what, false, 32)) {
			t.Errorf("%+v: Safe %t, then %+v", p, lock.Safe(p.c, p.l), p.on(ask, brake, what, false, 32))
		}
	})
}
