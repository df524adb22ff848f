package gate_test

import (
	"math"
	"testing"

	"paternoster/car"
	"paternoster/gate"
	"paternoster/leaf"
)

const (
	least    = math.MinInt
	greatest = math.MaxInt
)

// some are numbers of all sizes, about 0 and far beyond what is told of.
var some = []int{least, least + 1, -1 << 32, -1000, -17, -9, -8, -1, 0, 1, 2, 3, 7, 8, 9, 16, 17, 200, 201, 256, 1000000, 1000001, 1 << 32, greatest - 1, greatest}

// tries are how often doors may have opened again, as far as is told of.
var tries = []int{0, 1, 2, 3, 4, 5, 127, 128, 255, 256, 257, 32767, 32768, 65535, 65536, 999998, 999999, 1000000}

// mosts are how often doors may open again at most: of which nothing but a number is told.
var mosts = []int{least, least + 1, -1 << 32, -65536, -256, -2, -1, 0, 1, 2, 3, 4, 5, 6, 128, 129, 256, 257, 258, 32768, 65536, 65537, 999999, 1000000, 1000001, 1 << 32, 1<<32 + 1, greatest - 1, greatest}

var (
	closed = leaf.Leaf{Open: 0, Width: 4}
	ajar   = leaf.Leaf{Open: 1, Width: 4}
	half   = leaf.Leaf{Open: 2, Width: 4}
	almost = leaf.Leaf{Open: 3, Width: 4}
	wide   = leaf.Leaf{Open: 4, Width: 4}
)

// leaves are doors of each width, open as far as can be told of.
func leaves() []leaf.Leaf {
	var l []leaf.Leaf
	for width := 1; width <= 16; width++ {
		for open := 0; open <= width; open++ {
			l = append(l, leaf.Leaf{Open: open, Width: width})
		}
	}
	return l
}

// cars are cars of all places of the highest shaft, some above it, and far ones, at each speed.
func cars() []car.Car {
	places := []int{256, 257, 999, 1000, 99999, 999992, 999993, 999999, 1000000}
	for place := 0; place <= 249; place++ {
		places = append(places, place)
	}
	var l []car.Car
	for _, place := range places {
		for vel := -8; vel <= 8; vel++ {
			l = append(l, car.Car{Pos: place, Vel: vel, Load: place % 65})
		}
	}
	return l
}

// isShut tells whether doors are Shut, as chapter 8's words tell it.
func isShut(l leaf.Leaf) bool { return l.Open == 0 }

// isWide tells whether doors are Wide, as chapter 8's words tell it.
func isWide(l leaf.Leaf) bool { return l.Open == l.Width }

// isLevel tells whether a car is Level, as chapter 7's words tell it.
func isLevel(c car.Car) bool { return c.Vel == 0 && c.Pos&7 == 0 }

// whatOf is What, as the promise's words tell it.
func whatOf(c car.Car, l leaf.Leaf, open, power bool) int {
	if !power {
		return 0
	}
	if open {
		if isLevel(c) && !isWide(l) {
			return 1
		}
		return 0
	}
	if !isShut(l) {
		return 2
	}
	return 0
}

// stepOf is Step, as the promise's words tell it.
func stepOf(g gate.Gate, was, now leaf.Leaf, dwell int) gate.Gate {
	var on gate.Gate
	if !isWide(was) && isWide(now) {
		on.Wait = dwell
	} else if isWide(was) && isWide(now) && g.Wait > 0 {
		on.Wait = g.Wait - 1
	}
	if !isShut(now) {
		on.Tries = g.Tries
	}
	return on
}

// againOf is Again, as the promise's words tell it.
func againOf(g gate.Gate, l leaf.Leaf, blocked bool, most int) (gate.Gate, bool) {
	if !isShut(l) && !isWide(l) && blocked && g.Tries < most {
		return gate.Gate{Wait: g.Wait, Tries: g.Tries + 1}, true
	}
	return g, false
}

// P14.1

func TestWhat(t *testing.T) {
	at, off, past := car.Car{Pos: 8}, car.Car{Pos: 9}, car.Car{Pos: 8, Vel: 1}
	for _, c := range []struct {
		c           car.Car
		l           leaf.Leaf
		open, power bool
		want        int
	}{
		// At a floor they open until they are wide.
		{at, closed, true, true, leaf.Opens}, {at, ajar, true, true, leaf.Opens}, {at, almost, true, true, leaf.Opens}, {at, wide, true, true, leaf.Hold},
		{car.Car{}, closed, true, true, leaf.Opens}, {car.Car{Pos: 248}, closed, true, true, leaf.Opens}, {car.Car{Pos: 1000000}, ajar, true, true, leaf.Opens},
		// Between floors, and past one, they don't.
		{off, closed, true, true, leaf.Hold}, {off, half, true, true, leaf.Hold}, {off, wide, true, true, leaf.Hold}, {car.Car{Pos: 7}, closed, true, true, leaf.Hold},
		{past, closed, true, true, leaf.Hold}, {past, half, true, true, leaf.Hold}, {car.Car{Pos: 8, Vel: -1}, ajar, true, true, leaf.Hold}, {car.Car{Pos: 9, Vel: 1}, ajar, true, true, leaf.Hold},
		// They shut until they are shut, wherever the car is, and however fast.
		{at, wide, false, true, leaf.Shuts}, {at, almost, false, true, leaf.Shuts}, {at, ajar, false, true, leaf.Shuts}, {at, closed, false, true, leaf.Hold},
		{off, wide, false, true, leaf.Shuts}, {off, ajar, false, true, leaf.Shuts}, {off, closed, false, true, leaf.Hold},
		{past, wide, false, true, leaf.Shuts}, {past, half, false, true, leaf.Shuts}, {past, closed, false, true, leaf.Hold},
		// Without power nothing is done.
		{at, closed, true, false, leaf.Hold}, {at, half, true, false, leaf.Hold}, {at, wide, true, false, leaf.Hold}, {off, closed, true, false, leaf.Hold},
		{at, wide, false, false, leaf.Hold}, {at, half, false, false, leaf.Hold}, {at, closed, false, false, leaf.Hold}, {past, half, false, false, leaf.Hold},
		// The narrowest doors, and the widest.
		{at, leaf.Leaf{Open: 0, Width: 1}, true, true, leaf.Opens}, {at, leaf.Leaf{Open: 1, Width: 1}, true, true, leaf.Hold}, {at, leaf.Leaf{Open: 1, Width: 1}, false, true, leaf.Shuts},
		{at, leaf.Leaf{Open: 15, Width: 16}, true, true, leaf.Opens}, {at, leaf.Leaf{Open: 16, Width: 16}, true, true, leaf.Hold}, {at, leaf.Leaf{Open: 16, Width: 16}, false, true, leaf.Shuts},
	} {
		if what := gate.What(c.c, c.l, c.open, c.power); what != c.want {
			t.Errorf("What(%+v, %+v, %t, %t) = %d, want %d", c.c, c.l, c.open, c.power, what, c.want)
		}
	}
}

func TestWhatOfEachCarAndAllDoors(t *testing.T) {
	doors := leaves()
	for _, c := range cars() {
		for _, l := range doors {
			for n := range 4 {
				open, power := n&1 == 1, n&2 == 2
				if what, want := gate.What(c, l, open, power), whatOf(c, l, open, power); what != want {
					t.Fatalf("What(%+v, %+v, %t, %t) = %d, want %d", c, l, open, power, what, want)
				}
			}
		}
	}
}

func TestWhatOfEachLoadTheSame(t *testing.T) {
	for _, load := range some {
		for _, c := range []car.Car{{Pos: 8, Load: load}, {Pos: 9, Load: load}, {Pos: 8, Vel: 1, Load: load}} {
			for _, l := range leaves() {
				for n := range 4 {
					open, power := n&1 == 1, n&2 == 2
					if what, want := gate.What(c, l, open, power), whatOf(c, l, open, power); what != want {
						t.Fatalf("What(%+v, %+v, %t, %t) = %d, want %d", c, l, open, power, what, want)
					}
				}
			}
		}
	}
}

// P14.2

func TestStep(t *testing.T) {
	for _, c := range []struct {
		g        gate.Gate
		was, now leaf.Leaf
		dwell    int
		want     gate.Gate
	}{
		// Wide since now.
		{gate.Gate{}, almost, wide, 2, gate.Gate{Wait: 2}}, {gate.Gate{}, almost, wide, 0, gate.Gate{}}, {gate.Gate{}, almost, wide, 200, gate.Gate{Wait: 200}},
		{gate.Gate{Wait: 9}, almost, wide, 2, gate.Gate{Wait: 2}}, {gate.Gate{Wait: 9}, almost, wide, 0, gate.Gate{}}, {gate.Gate{Wait: 200}, closed, wide, 3, gate.Gate{Wait: 3}},
		{gate.Gate{}, leaf.Leaf{Width: 1}, leaf.Leaf{Open: 1, Width: 1}, 5, gate.Gate{Wait: 5}},
		// Wide as they were: the dwell told then is nothing.
		{gate.Gate{Wait: 2}, wide, wide, 2, gate.Gate{Wait: 1}}, {gate.Gate{Wait: 1}, wide, wide, 2, gate.Gate{}}, {gate.Gate{}, wide, wide, 2, gate.Gate{}}, {gate.Gate{}, wide, wide, 200, gate.Gate{}},
		{gate.Gate{Wait: 200}, wide, wide, 0, gate.Gate{Wait: 199}}, {gate.Gate{Wait: 200}, wide, wide, 200, gate.Gate{Wait: 199}},
		// No longer wide, and not yet.
		{gate.Gate{Wait: 7}, wide, almost, 2, gate.Gate{}}, {gate.Gate{Wait: 7}, almost, almost, 2, gate.Gate{}}, {gate.Gate{Wait: 7}, ajar, half, 2, gate.Gate{}}, {gate.Gate{Wait: 7}, closed, ajar, 200, gate.Gate{}},
		{gate.Gate{Wait: 7}, ajar, closed, 2, gate.Gate{}}, {gate.Gate{Wait: 7}, closed, closed, 2, gate.Gate{}}, {gate.Gate{Wait: 7}, wide, closed, 2, gate.Gate{}},
		// Tries are forgotten where doors are shut now, and nowhere else.
		{gate.Gate{Tries: 3}, ajar, closed, 2, gate.Gate{}}, {gate.Gate{Tries: 3}, closed, closed, 2, gate.Gate{}}, {gate.Gate{Tries: 1000000}, wide, closed, 2, gate.Gate{}},
		{gate.Gate{Tries: 3}, closed, ajar, 2, gate.Gate{Tries: 3}}, {gate.Gate{Tries: 3}, half, ajar, 2, gate.Gate{Tries: 3}}, {gate.Gate{Tries: 3}, half, half, 2, gate.Gate{Tries: 3}},
		{gate.Gate{Tries: 3}, almost, wide, 2, gate.Gate{Wait: 2, Tries: 3}}, {gate.Gate{Wait: 2, Tries: 3}, wide, wide, 2, gate.Gate{Wait: 1, Tries: 3}}, {gate.Gate{Wait: 2, Tries: 3}, wide, almost, 2, gate.Gate{Tries: 3}},
		{gate.Gate{Tries: 1000000}, closed, wide, 2, gate.Gate{Wait: 2, Tries: 1000000}},
	} {
		g := c.g
		if on := g.Step(c.was, c.now, c.dwell); on != c.want || g != c.g {
			t.Errorf("%+v.Step(%+v, %+v, %d) = %+v, want %+v; it is %+v", c.g, c.was, c.now, c.dwell, on, c.want, g)
		}
	}
}

func TestStepOfAllDoors(t *testing.T) {
	doors := leaves()
	for _, was := range doors {
		for _, now := range doors {
			for _, wait := range []int{0, 1, 2, 3, 127, 128, 199, 200} {
				for _, n := range []int{0, 1, 3, 256, 1000000} {
					for _, dwell := range []int{0, 1, 2, 199, 200} {
						g := gate.Gate{Wait: wait, Tries: n}
						if on, want := g.Step(was, now, dwell), stepOf(g, was, now, dwell); on != want {
							t.Fatalf("%+v.Step(%+v, %+v, %d) = %+v, want %+v", g, was, now, dwell, on, want)
						}
					}
				}
			}
		}
	}
}

func TestStepOfEachWaitAndDwell(t *testing.T) {
	for wait := 0; wait <= 200; wait++ {
		for dwell := 0; dwell <= 200; dwell++ {
			for _, was := range []leaf.Leaf{closed, ajar, almost, wide} {
				for _, now := range []leaf.Leaf{closed, ajar, almost, wide} {
					g := gate.Gate{Wait: wait, Tries: wait + dwell}
					if on, want := g.Step(was, now, dwell), stepOf(g, was, now, dwell); on != want {
						t.Fatalf("%+v.Step(%+v, %+v, %d) = %+v, want %+v", g, was, now, dwell, on, want)
					}
				}
			}
		}
	}
}

func TestStepOfAllTries(t *testing.T) {
	for _, n := range tries {
		for _, was := range []leaf.Leaf{closed, half, wide} {
			for _, now := range []leaf.Leaf{closed, half, wide} {
				g := gate.Gate{Wait: 5, Tries: n}
				if on, want := g.Step(was, now, 9), stepOf(g, was, now, 9); on != want {
					t.Fatalf("%+v.Step(%+v, %+v, 9) = %+v, want %+v", g, was, now, on, want)
				}
			}
		}
	}
}

func TestReady(t *testing.T) {
	for _, c := range []struct {
		wait int
		l    leaf.Leaf
		want bool
	}{
		// Doors that are wide wait; all others don't.
		{0, wide, true}, {1, wide, false}, {2, wide, false}, {200, wide, false}, {0, leaf.Leaf{Open: 1, Width: 1}, true}, {1, leaf.Leaf{Open: 1, Width: 1}, false},
		{0, closed, true}, {1, closed, true}, {200, closed, true}, {0, ajar, true}, {200, ajar, true}, {0, almost, true}, {1, almost, true},
	} {
		for _, n := range tries {
			if g := (gate.Gate{Wait: c.wait, Tries: n}); g.Ready(c.l) != c.want {
				t.Errorf("%+v.Ready(%+v) = %t", g, c.l, !c.want)
			}
		}
	}
	for _, l := range leaves() {
		for wait := 0; wait <= 200; wait++ {
			if want := !isWide(l) || wait == 0; (gate.Gate{Wait: wait}).Ready(l) != want {
				t.Errorf("Wait %d: Ready(%+v) = %t", wait, l, !want)
			}
		}
	}
}

func TestWideDoorsStayForTheirDwell(t *testing.T) {
	for dwell := 0; dwell <= 200; dwell++ {
		g, ticks := gate.Gate{Wait: 200 - dwell}.Step(almost, wide, dwell), 0
		for !g.Ready(wide) && ticks <= 200 {
			g = g.Step(wide, wide, dwell)
			ticks++
		}
		if ticks != dwell {
			t.Errorf("dwell %d: Ready %d ticks on", dwell, ticks)
		}
		// And once they may be shut they may be, for as long as they are wide.
		for range 3 {
			if g = g.Step(wide, wide, dwell); !g.Ready(wide) {
				t.Errorf("dwell %d: %+v, no longer Ready", dwell, g)
			}
		}
	}
}

// P14.3

func TestAgain(t *testing.T) {
	for _, c := range []struct {
		tries   int
		l       leaf.Leaf
		blocked bool
		most    int
		want    int
		is      bool
	}{
		{0, half, true, 3, 1, true}, {1, half, true, 3, 2, true}, {2, half, true, 3, 3, true}, {0, ajar, true, 1, 1, true}, {0, almost, true, 1, 1, true},
		{999999, half, true, 1000000, 1000000, true}, {1000000, half, true, 1000001, 1000001, true}, {1000000, half, true, greatest, 1000001, true},
		// Often enough.
		{3, half, true, 3, 3, false}, {4, half, true, 3, 4, false}, {1, half, true, 1, 1, false}, {1000000, half, true, 1000000, 1000000, false}, {1000000, half, true, 3, 1000000, false},
		{0, half, true, 0, 0, false}, {0, half, true, -1, 0, false}, {0, half, true, least, 0, false}, {2, half, true, -3, 2, false},
		// Nothing is between them.
		{0, half, false, 3, 0, false}, {2, ajar, false, 3, 2, false}, {3, half, false, 3, 3, false}, {0, half, false, greatest, 0, false},
		// Shut ones, and wide ones.
		{0, closed, true, 3, 0, false}, {0, wide, true, 3, 0, false}, {2, closed, true, 3, 2, false}, {2, wide, true, 3, 2, false}, {1, closed, true, greatest, 1, false}, {1, wide, true, greatest, 1, false},
		{0, closed, false, 3, 0, false}, {0, wide, false, 3, 0, false}, {0, leaf.Leaf{Open: 1, Width: 1}, true, 3, 0, false}, {0, leaf.Leaf{Width: 1}, true, 3, 0, false},
	} {
		for _, wait := range []int{0, 1, 7, 200} {
			g := gate.Gate{Wait: wait, Tries: c.tries}
			on, is := g.Again(c.l, c.blocked, c.most)
			if want := (gate.Gate{Wait: wait, Tries: c.want}); on != want || is != c.is || g.Tries != c.tries {
				t.Errorf("%+v.Again(%+v, %t, %d) = %+v, %t, want %+v, %t", g, c.l, c.blocked, c.most, on, is, want, c.is)
			}
		}
	}
}

func TestAgainOfAllDoors(t *testing.T) {
	for _, l := range leaves() {
		for _, n := range tries {
			for _, most := range mosts {
				for _, blocked := range []bool{false, true} {
					for _, wait := range []int{0, 1, 200} {
						g := gate.Gate{Wait: wait, Tries: n}
						on, is := g.Again(l, blocked, most)
						if want, wantIs := againOf(g, l, blocked, most); on != want || is != wantIs {
							t.Fatalf("%+v.Again(%+v, %t, %d) = %+v, %t, want %+v, %t", g, l, blocked, most, on, is, want, wantIs)
						}
					}
				}
			}
		}
	}
}

func TestOfWhichNothingIsTold(t *testing.T) {
	// Some answer.
	for _, a := range some {
		for _, b := range some {
			g, l, c := gate.Gate{Wait: a, Tries: b}, leaf.Leaf{Open: a, Width: b}, car.Car{Pos: a, Vel: b, Load: a}
			g.Ready(l)
			g.Ready(wide)
			for n := range 4 {
				gate.What(c, l, n&1 == 1, n&2 == 2)
			}
			for _, now := range []leaf.Leaf{l, closed, half, wide, {}, {Open: b, Width: a}} {
				g.Step(l, now, a)
				g.Step(now, l, b)
				for _, most := range some {
					g.Again(now, true, most)
					g.Again(now, false, most)
				}
			}
		}
	}
}

// P14.4

// mixed goes through numbers, always the same ones.
func mixed(times int, f func(n uint64)) {
	x := uint64(88172645463325252)
	for range times {
		x ^= x << 13
		x ^= x >> 7
		x ^= x << 17
		f(x)
	}
}

// door is doors at a floor, their gate, and whether they open again.
type door struct {
	l     leaf.Leaf
	g     gate.Gate
	opens bool
}

// on is doors a tick on, that should shut; whether it was told that they should open again.
func (d door) on(blocked bool, dwell, most int) (door, bool) {
	again := false
	if !d.opens {
		d.g, again = d.g.Again(d.l, blocked, most)
		d.opens = again
	}
	was := d.l
	if d.opens || d.g.Ready(d.l) {
		d.l = d.l.Step(gate.What(car.Car{Pos: 8}, d.l, d.opens, true), blocked)
	}
	d.g = d.g.Step(was, d.l, dwell)
	d.opens = d.opens && !d.l.Wide()
	return d, again
}

func TestBlockedDoorsOpenAgainNoOftenerThanMost(t *testing.T) {
	// Blocked whenever they are shutting, for ever: they open again just so often; then they stay as far open as they are.
	for width := 2; width <= 16; width++ {
		for _, most := range []int{-1, 0, 1, 2, 3, 7} {
			for _, dwell := range []int{0, 1, 5} {
				d, count := door{l: leaf.Leaf{Open: width, Width: width}}, 0
				for range 20 * (width + dwell + 2) {
					var again bool
					if d, again = d.on(!d.opens && !d.l.Wide(), dwell, most); again {
						count++
					}
				}
				if count != max(0, most) || d.l.Shut() {
					t.Errorf("width %d, most %d, dwell %d: they opened again %d times; %+v", width, most, dwell, count, d)
				}
			}
		}
	}
}

func TestShutDoorsMayOpenAgainAsOften(t *testing.T) {
	d := door{l: half}
	for round := range 5 {
		count := 0
		for range 60 {
			var again bool
			if d, again = d.on(!d.opens && !d.l.Wide(), 1, 3); again {
				count++
			}
		}
		if count != 3 {
			t.Errorf("round %d: they opened again %d times", round, count)
		}
		// Shut, and opened by half.
		for !d.l.Shut() {
			d, _ = d.on(false, 1, 3)
		}
		if d.g.Tries != 0 {
			t.Errorf("round %d: shut, with Tries of %d", round, d.g.Tries)
		}
		was := d.l
		d.l = half
		d.g = d.g.Step(was, d.l, 1)
	}
}

func TestBlockedNowAndThen(t *testing.T) {
	for _, most := range []int{0, 1, 2, 3, 5} {
		d, count, opened, shuts := door{l: leaf.Leaf{Open: 3, Width: 3}}, 0, 0, 0
		mixed(200000, func(n uint64) {
			if d.l.Shut() {
				// Opened as for a call.
				was := d.l
				d.l = d.l.Step(leaf.Opens, false).Step(leaf.Opens, false)
				d.g = d.g.Step(was, d.l, 2)
			}
			var again bool
			if d, again = d.on(n>>20%8 != 0, 2, most); again {
				count++
				opened++
			}
			if count > most {
				t.Fatalf("most %d: they opened again %d times, %+v", most, count, d)
			}
			if d.l.Shut() {
				count = 0
				shuts++
			}
		})
		if shuts < 1000 || opened < 1000*min(1, most) {
			t.Errorf("most %d: they were shut %d times, and opened again %d times", most, shuts, opened)
		}
	}
}

func FuzzAsTheWordsSay(f *testing.F) {
	f.Add(8, 0, 1, 2, 3, 2, 1, true, 1, 2)
	f.Add(8, 0, 2, 2, 0, 0, 0, false, 3, 2)
	f.Add(9, 1, 0, 16, 200, 200, 1000000, true, 1000001, 16)
	f.Add(greatest, least, -1, least, greatest, least, greatest, true, greatest, least)
	f.Fuzz(func(t *testing.T, pos, vel, open, width, wait, dwell, n int, blocked bool, most, then int) {
		c, l, now, g := car.Car{Pos: pos, Vel: vel}, leaf.Leaf{Open: open, Width: width}, leaf.Leaf{Open: then, Width: width}, gate.Gate{Wait: wait, Tries: n}
		var whats [4]int
		for i := range whats {
			whats[i] = gate.What(c, l, i&1 == 1, i&2 == 2)
		}
		on, ready := g.Step(l, now, dwell), g.Ready(l)
		again, is := g.Again(l, blocked, most)
		if pos < 0 || pos > 1000000 || vel < -8 || vel > 8 || width < 1 || width > 16 || open < 0 || open > width || then < 0 || then > width || wait < 0 || wait > 200 || dwell < 0 || dwell > 200 || n < 0 || n > 1000000 {
			return
		}
		for i, what := range whats {
			if want := whatOf(c, l, i&1 == 1, i&2 == 2); what != want {
				t.Errorf("What(%+v, %+v, %t, %t) = %d, want %d", c, l, i&1 == 1, i&2 == 2, what, want)
			}
		}
		if want := stepOf(g, l, now, dwell); on != want {
			t.Errorf("%+v.Step(%+v, %+v, %d) = %+v, want %+v", g, l, now, dwell, on, want)
		}
		if want := !isWide(l) || wait == 0; ready != want {
			t.Errorf("%+v.Ready(%+v) = %t", g, l, ready)
		}
		if want, wantIs := againOf(g, l, blocked, most); again != want || is != wantIs {
			t.Errorf("%+v.Again(%+v, %t, %d) = %+v, %t, want %+v, %t", g, l, blocked, most, again, is, want, wantIs)
		}
	})
}
