package turn_test

import (
	"math"
	"math/bits"
	"slices"
	"testing"

	"paternoster/turn"
)

const (
	least    = math.MinInt
	greatest = math.MaxInt
	maxBits  = 1<<64 - 1
	cars     = 64
	maxLeft  = 1000
	most     = 200 // of a period
)

// strange are cars that there aren't; some of them would be there if only their last bits counted.
var strange = []int{least, least + 1, -1 << 32, -1<<32 + 5, -129, -128, -65, -64, -63, -5, -2, -1, 64, 65, 66, 127, 128, 255, 256, 1 << 31, 1 << 32, 1<<32 + 5, greatest - 1, greatest}

// below are cars below 0.
var below = []int{least, least + 1, -1 << 32, -1<<32 + 5, -129, -128, -65, -64, -63, -5, -2, -1}

// rows are bits of all kinds.
var rows = []uint64{0, 1, 2, 3, 5, 6, 21, 1 << 31, 1 << 32, 1<<32 - 1, 3 << 31, 1 << 62, 1 << 63, 3 << 62, 1<<63 | 1, 1<<63 - 1, 0x5555555555555555, 0xaaaaaaaaaaaaaaaa, 0x0123456789abcdef, maxBits - 1, maxBits}

// lefts are those of which is told, about their ends.
var lefts = []int{0, 1, 2, 3, 199, 200, 201, 999, maxLeft}

// periods are those of which is told, and such as are as 1.
var periods = []int{least, least + 1, -1 << 32, -200, -2, -1, 0, 1, 2, 3, 128, 199, most}

// both are what may be told of busy.
var both = []bool{false, true}

// readyOf are the cars whose bits are 1, the lowest one first, told by halving, as a car's bit is the one of value 2^car.
func readyOf(ready uint64) []int {
	var list []int
	for car := range cars {
		if ready%2 == 1 {
			list = append(list, car)
		}
		ready /= 2
	}
	return list
}

// behind is the next one behind a car, as the chapter's words tell it: -1, if none is ready.
func behind(car int, ready []int) int {
	for _, x := range ready {
		if x > car {
			return x
		}
	}
	if len(ready) == 0 {
		return -1
	}
	return ready[0]
}

// of is a turn that begins, as the chapter's words tell it.
func of(car, period int) turn.Turn {
	if car == -1 {
		return turn.Turn{Car: -1, Left: 0}
	}
	if period <= 0 {
		period = 1
	}
	return turn.Turn{Car: car, Left: period}
}

// stepOf is Step, as the promise's words tell it.
func stepOf(x turn.Turn, ready []int, busy bool, period int) turn.Turn {
	if !slices.Contains(ready, x.Car) {
		return of(behind(x.Car, ready), period)
	}
	if busy {
		return x
	}
	if x.Left-1 < 1 {
		return of(behind(x.Car, ready), period)
	}
	return turn.Turn{Car: x.Car, Left: x.Left - 1}
}

// pickOf is Pick, as the promise's words tell it.
func pickOf(x turn.Turn, car int, ready []int, busy bool, period int) (turn.Turn, bool) {
	if busy || !slices.Contains(ready, car) {
		return x, false
	}
	return of(car, period), true
}

// stepped tells of a Step that isn't what the words say.
func stepped(t *testing.T, x turn.Turn, ready uint64, busy bool, period int) {
	t.Helper()
	want := stepOf(x, readyOf(ready), busy, period)
	if y := x.Step(ready, busy, period); y != want {
		t.Fatalf("%+v: Step(%#x, %t, %d) = %+v, want %+v", x, ready, busy, period, y, want)
	}
}

// picked tells of a Pick that isn't what the words say.
func picked(t *testing.T, x turn.Turn, car int, ready uint64, busy bool, period int) {
	t.Helper()
	want, wantIs := pickOf(x, car, readyOf(ready), busy, period)
	if y, is := x.Pick(car, ready, busy, period); y != want || is != wantIs {
		t.Fatalf("%+v: Pick(%d, %#x, %t, %d) = %+v, %t, want %+v, %t", x, car, ready, busy, period, y, is, want, wantIs)
	}
}

// P20.1

func TestNone(t *testing.T) {
	if x := turn.None(); x != (turn.Turn{Car: -1, Left: 0}) {
		t.Errorf("None() = %+v", x)
	}
}

func TestStep(t *testing.T) {
	type turned = turn.Turn
	none := turned{Car: -1}
	for _, c := range []struct {
		x      turned
		ready  uint64
		busy   bool
		period int
		want   turned
	}{
		// The chapter's examples.
		{none, 5, false, 1, turned{0, 1}},
		{turned{0, 1}, 5, false, 1, turned{2, 1}},
		{turned{2, 1}, 5, false, 1, turned{0, 1}},
		// None is ready.
		{none, 0, false, 9, none},
		{none, 0, true, 9, none},
		{turned{0, 7}, 0, false, 9, none},
		{turned{5, 7}, 0, true, 9, none},
		{turned{63, 1000}, 0, false, 9, none},
		{turned{-5, 7}, 0, false, 9, none},
		{turned{least, 7}, 0, true, 9, none},
		{turned{-1, 7}, 0, false, 9, none},
		// Nobody served: the lowest one, busy or not.
		{none, 1, false, 9, turned{0, 9}},
		{none, 6, true, 9, turned{1, 9}},
		{none, 1 << 63, false, 9, turned{63, 9}},
		{none, maxBits, true, 9, turned{0, 9}},
		{turned{-1, 1000}, 12, false, 9, turned{2, 9}},
		{turned{-2, 3}, 12, true, 9, turned{2, 9}},
		{turned{-62, 3}, 12, false, 9, turned{2, 9}},
		{turned{least, 3}, 12, false, 9, turned{2, 9}},
		// Who served isn't ready: the next one behind it, whatever was left, busy or not.
		{turned{1, 7}, 5, false, 9, turned{2, 9}},
		{turned{1, 7}, 5, true, 9, turned{2, 9}},
		{turned{1, 0}, 5, false, 9, turned{2, 9}},
		{turned{1, 1}, 5, true, 9, turned{2, 9}},
		{turned{3, 7}, 5, false, 9, turned{0, 9}},
		{turned{3, 7}, 5, true, 9, turned{0, 9}},
		{turned{0, 7}, 1 << 63, false, 9, turned{63, 9}},
		{turned{62, 7}, 1<<63 | 1, false, 9, turned{63, 9}},
		{turned{63, 7}, 1<<62 | 2, false, 9, turned{1, 9}},
		{turned{63, 7}, 1<<63 - 1, true, 9, turned{0, 9}},
		{turned{31, 7}, 1<<32 | 1, false, 9, turned{32, 9}},
		{turned{32, 7}, 1<<31 | 1<<33, false, 9, turned{33, 9}},
		// It is ready, and one is busy: as it was.
		{turned{0, 7}, 5, true, 9, turned{0, 7}},
		{turned{0, 1}, 5, true, 9, turned{0, 1}},
		{turned{0, 0}, 5, true, 9, turned{0, 0}},
		{turned{2, 1000}, 4, true, 0, turned{2, 1000}},
		{turned{63, 1}, maxBits, true, 200, turned{63, 1}},
		// Nobody is: one tick less is left.
		{turned{0, 7}, 5, false, 9, turned{0, 6}},
		{turned{0, 2}, 5, false, 9, turned{0, 1}},
		{turned{2, 1000}, 5, false, 9, turned{2, 999}},
		{turned{2, 201}, 5, false, 200, turned{2, 200}},
		{turned{63, 3}, 1 << 63, false, 1, turned{63, 2}},
		// None is left: the next one behind it.
		{turned{0, 1}, 5, false, 9, turned{2, 9}},
		{turned{0, 0}, 5, false, 9, turned{2, 9}},
		{turned{2, 1}, 5, false, 9, turned{0, 9}},
		{turned{2, 0}, 7, false, 9, turned{0, 9}},
		{turned{1, 1}, 15, false, 9, turned{2, 9}},
		{turned{63, 1}, 1<<63 | 6, false, 9, turned{1, 9}},
		{turned{62, 1}, maxBits, false, 9, turned{63, 9}},
		{turned{63, 1}, maxBits, false, 9, turned{0, 9}},
		// It is ready alone: itself anew.
		{turned{0, 1}, 1, false, 9, turned{0, 9}},
		{turned{5, 1}, 32, false, 9, turned{5, 9}},
		{turned{63, 0}, 1 << 63, false, 9, turned{63, 9}},
		// Periods about their ends.
		{turned{0, 1}, 5, false, 2, turned{2, 2}},
		{turned{0, 1}, 5, false, 200, turned{2, 200}},
		{turned{0, 1}, 5, false, 0, turned{2, 1}},
		{turned{0, 1}, 5, false, -1, turned{2, 1}},
		{turned{0, 1}, 5, false, least, turned{2, 1}},
		{none, 5, false, 0, turned{0, 1}},
		{none, 5, false, -7, turned{0, 1}},
		{turned{1, 9}, 5, true, least, turned{2, 1}},
		{turned{1, 9}, 0, true, 0, none},
		{turned{0, 9}, 5, false, 0, turned{0, 8}},
	} {
		if x := c.x.Step(c.ready, c.busy, c.period); x != c.want {
			t.Errorf("%+v: Step(%#x, %t, %d) = %+v, want %+v", c.x, c.ready, c.busy, c.period, x, c.want)
		}
	}
}

func TestStepOfEachCar(t *testing.T) {
	told := slices.Clone(below)
	for car := range cars {
		told = append(told, car)
	}
	for _, car := range told {
		for _, left := range lefts {
			for _, period := range periods {
				for _, busy := range both {
					for _, ready := range rows {
						stepped(t, turn.Turn{Car: car, Left: left}, ready, busy, period)
					}
				}
			}
		}
	}
}

func TestStepOfEachLeftAndPeriod(t *testing.T) {
	for left := 0; left <= maxLeft; left++ {
		for period := -2; period <= most; period++ {
			for _, busy := range both {
				for _, car := range []int{-1, 0, 1, 2} {
					stepped(t, turn.Turn{Car: car, Left: left}, 5, busy, period)
				}
			}
		}
	}
}

func TestStepOfEachPairThatIsReady(t *testing.T) {
	for car := -1; car < cars; car++ {
		for a := range cars {
			for b := range cars {
				for _, left := range []int{1, 2} {
					stepped(t, turn.Turn{Car: car, Left: left}, 1<<a|1<<b, false, 9)
					stepped(t, turn.Turn{Car: car, Left: left}, ^uint64(1<<a|1<<b), false, 9)
				}
			}
		}
	}
}

func TestStepOfAllFewThatAreReady(t *testing.T) {
	// All bits of eight cars, at both ends and across the middle of the bits.
	for _, low := range []int{0, 28, 56} {
		for few := range uint64(1 << 8) {
			for car := low - 1; car < low+8; car++ {
				for _, left := range []int{0, 1, 2} {
					for _, busy := range both {
						stepped(t, turn.Turn{Car: car, Left: left}, few<<low, busy, 3)
					}
				}
			}
		}
	}
}

// P20.2

func TestPick(t *testing.T) {
	type turned = turn.Turn
	none := turned{Car: -1}
	for _, c := range []struct {
		x      turned
		car    int
		ready  uint64
		busy   bool
		period int
		want   turned
		is     bool
	}{
		// It is taken: another one, the same one, and where nobody served.
		{turned{0, 7}, 2, 5, false, 9, turned{2, 9}, true},
		{turned{2, 7}, 0, 5, false, 9, turned{0, 9}, true},
		{turned{2, 7}, 2, 5, false, 9, turned{2, 9}, true},
		{turned{2, 9}, 2, 5, false, 9, turned{2, 9}, true},
		{none, 2, 5, false, 9, turned{2, 9}, true},
		{none, 63, 1 << 63, false, 9, turned{63, 9}, true},
		{turned{63, 1}, 0, maxBits, false, 9, turned{0, 9}, true},
		// Who served needn't be ready.
		{turned{1, 7}, 2, 5, false, 9, turned{2, 9}, true},
		{turned{-5, 7}, 2, 5, false, 9, turned{2, 9}, true},
		// Busy.
		{turned{0, 7}, 2, 5, true, 9, turned{0, 7}, false},
		{turned{0, 0}, 0, 5, true, 9, turned{0, 0}, false},
		{none, 2, 5, true, 9, none, false},
		{turned{1, 7}, 2, 5, true, 9, turned{1, 7}, false},
		// It isn't ready: no other one is taken.
		{turned{0, 7}, 1, 5, false, 9, turned{0, 7}, false},
		{turned{0, 7}, 1, 0, false, 9, turned{0, 7}, false},
		{turned{0, 7}, 0, 4, false, 9, turned{0, 7}, false},
		{turned{0, 7}, 63, 1<<63 - 1, false, 9, turned{0, 7}, false},
		{turned{0, 7}, 0, maxBits - 1, false, 9, turned{0, 7}, false},
		{none, 1, 5, false, 9, none, false},
		{turned{-5, 7}, 1, 5, false, 9, turned{-5, 7}, false},
		{turned{0, 7}, 1, 5, true, 9, turned{0, 7}, false},
		// No such car.
		{turned{0, 7}, -1, maxBits, false, 9, turned{0, 7}, false},
		{turned{0, 7}, 64, maxBits, false, 9, turned{0, 7}, false},
		{turned{0, 7}, least, maxBits, false, 9, turned{0, 7}, false},
		{turned{0, 7}, greatest, maxBits, false, 9, turned{0, 7}, false},
		{none, -1, maxBits, false, 9, none, false},
		{none, -1, 0, false, 9, none, false},
		// Periods about their ends.
		{turned{0, 7}, 2, 5, false, 1, turned{2, 1}, true},
		{turned{0, 7}, 2, 5, false, 200, turned{2, 200}, true},
		{turned{0, 7}, 2, 5, false, 0, turned{2, 1}, true},
		{turned{0, 7}, 2, 5, false, -1, turned{2, 1}, true},
		{turned{0, 7}, 2, 5, false, least, turned{2, 1}, true},
	} {
		if x, is := c.x.Pick(c.car, c.ready, c.busy, c.period); x != c.want || is != c.is {
			t.Errorf("%+v: Pick(%d, %#x, %t, %d) = %+v, %t, want %+v, %t", c.x, c.car, c.ready, c.busy, c.period, x, is, c.want, c.is)
		}
	}
}

func TestPickOfEachCar(t *testing.T) {
	wanted := slices.Clone(strange)
	for car := range cars {
		wanted = append(wanted, car)
	}
	for _, car := range wanted {
		for _, was := range []int{least, -5, -1, 0, 1, 31, 32, 62, 63} {
			for _, left := range []int{0, 1, 7, maxLeft} {
				for _, period := range periods {
					for _, busy := range both {
						for _, ready := range rows {
							picked(t, turn.Turn{Car: was, Left: left}, car, ready, busy, period)
						}
					}
				}
			}
		}
	}
}

func TestPickOfEachPeriod(t *testing.T) {
	for period := -2; period <= most; period++ {
		for car := range cars {
			for _, busy := range both {
				picked(t, turn.None(), car, 1<<car, busy, period)
				picked(t, turn.Turn{Car: 5, Left: 7}, car, ^uint64(1<<car), busy, period)
			}
		}
	}
}

func TestTheTurnItselfStaysAsItWas(t *testing.T) {
	x := turn.Turn{Car: 0, Left: 1}
	ahead := x
	for range 3 {
		if y := x.Step(5, false, 2); y != (turn.Turn{Car: 2, Left: 2}) {
			t.Errorf("Step(5, false, 2) = %+v", y)
		}
		if y, is := x.Pick(2, 5, false, 3); y != (turn.Turn{Car: 2, Left: 3}) || !is {
			t.Errorf("Pick(2, 5, false, 3) = %+v, %t", y, is)
		}
		if x != ahead {
			t.Fatalf("the turn itself is %+v", x)
		}
	}
}

func TestOfWhichNothingIsTold(t *testing.T) {
	// Some answer, and the same one each time.
	numbers := append([]int{0, 5, 63, 199, 200, 201, maxLeft, maxLeft + 1}, strange...)
	for _, car := range numbers {
		for _, left := range numbers {
			for _, period := range numbers {
				for _, busy := range both {
					for _, ready := range []uint64{0, 5, 1 << 63, maxBits} {
						x := turn.Turn{Car: car, Left: left}
						if y, again := x.Step(ready, busy, period), x.Step(ready, busy, period); y != again {
							t.Errorf("%+v: Step(%#x, %t, %d) = %+v, then %+v", x, ready, busy, period, y, again)
						}
						y, is := x.Pick(5, ready, busy, period)
						if again, so := x.Pick(5, ready, busy, period); y != again || is != so {
							t.Errorf("%+v: Pick(5, %#x, %t, %d) = %+v, %t, then %+v, %t", x, ready, busy, period, y, is, again, so)
						}
					}
				}
			}
		}
	}
}

// P20.3

// serves tells of a turn whose car isn't ready, or which is that of no car though one is.
func serves(t *testing.T, x turn.Turn, ready uint64) {
	t.Helper()
	list := readyOf(ready)
	if len(list) == 0 {
		if x != (turn.Turn{Car: -1}) {
			t.Fatalf("none is ready: %+v", x)
		}
		return
	}
	if !slices.Contains(list, x.Car) {
		t.Fatalf("ready %#x: %+v", ready, x)
	}
}

func TestWhoServesIsReady(t *testing.T) {
	for car := -2; car < cars; car++ {
		for _, left := range []int{0, 1, 2, maxLeft} {
			for _, busy := range both {
				for _, ready := range rows {
					serves(t, turn.Turn{Car: car, Left: left}.Step(ready, busy, 3), ready)
				}
			}
		}
	}
}

func TestWhoServesIsReadyWhateverIsSoTickByTick(t *testing.T) {
	// Numbers that look mixed, by a rule: which cars are ready, who is picked, and whether one is busy.
	mix := uint64(1)
	x := turn.None()
	for tick := range 200000 {
		mix = mix*6364136223846793005 + 1442695040888963407
		ready := bits.RotateLeft64(mix, 17) & (mix >> 3) & rows[tick/50%len(rows)]
		busy, period := mix>>40%4 == 0, int(mix>>50%8)
		stepped(t, x, ready, busy, period)
		x = x.Step(ready, busy, period)
		serves(t, x, ready)
		if mix>>45%8 == 0 {
			picked(t, x, int(mix>>20%cars), ready, busy, period)
			x, _ = x.Pick(int(mix>>20%cars), ready, busy, period)
			serves(t, x, ready)
		}
	}
}

// inTurn tells of the first tick in which another car serves than the one whose turn it is, or for longer or less long.
func inTurn(t *testing.T, ready uint64, period int) {
	t.Helper()
	list := readyOf(ready)
	long := max(1, period)
	x := turn.None()
	for tick := range 2*long*len(list) + 3 {
		x = x.Step(ready, false, period)
		want := turn.Turn{Car: list[tick/long%len(list)], Left: long - tick%long}
		if x != want {
			t.Fatalf("ready %#x, period %d: in tick %d %+v, want %+v", ready, period, tick, x, want)
		}
	}
}

func TestEachServesInTurnForAsLong(t *testing.T) {
	for _, ready := range rows[1:] {
		for _, period := range []int{least, -1, 0, 1, 2, 3, 7, 64, 199, most} {
			inTurn(t, ready, period)
		}
	}
	for _, low := range []int{0, 28, 56} {
		for few := uint64(1); few < 1<<8; few++ {
			for period := 0; period <= 5; period++ {
				inTurn(t, few<<low, period)
			}
		}
	}
	for period := -3; period <= most; period++ {
		inTurn(t, 21, period)
	}
}

func TestBusyTicksDoNotCount(t *testing.T) {
	// With busy ticks between, as many as there may be, all is as it is without them.
	for _, ready := range rows[1:] {
		x, y := turn.None(), turn.None()
		for tick := range 500 {
			x, y = x.Step(ready, false, 3), y.Step(ready, false, 3)
			for range tick % 4 {
				y = y.Step(ready, true, 3)
			}
			if x != y {
				t.Fatalf("ready %#x: behind tick %d %+v, with busy ticks %+v", ready, tick, x, y)
			}
		}
	}
}

func TestWhoIsPickedServesAsLongAndTheOthersFollow(t *testing.T) {
	const ready, period = 0x8000000100000015, 4
	list := readyOf(ready)
	for i, car := range list {
		x, is := turn.Turn{Car: 2, Left: 3}.Pick(car, ready, false, period)
		for tick := range 3 * period * len(list) {
			want := turn.Turn{Car: list[(i+tick/period)%len(list)], Left: period - tick%period}
			if x != want || !is {
				t.Fatalf("picked %d: in tick %d %+v, %t, want %+v", car, tick, x, is, want)
			}
			x = x.Step(ready, false, period)
		}
	}
}

func FuzzTurnsAsTheWordsSay(f *testing.F) {
	f.Add(-1, 0, 0, uint64(5), false, 1)
	f.Add(0, 1, 2, uint64(5), false, 1)
	f.Add(63, 1000, 64, uint64(maxBits), true, most)
	f.Add(least, 1, least, uint64(0), false, least)
	f.Add(greatest, least, greatest, uint64(6), false, greatest)
	f.Fuzz(func(t *testing.T, car, left, other int, ready uint64, busy bool, period int) {
		x := turn.Turn{Car: car, Left: left}
		y := x.Step(ready, busy, period)
		serves(t, y, ready)
		x.Pick(other, ready, busy, period)
		if car >= cars || left < 0 || left > maxLeft || period > most {
			return
		}
		stepped(t, x, ready, busy, period)
		picked(t, x, other, ready, busy, period)
	})
}
