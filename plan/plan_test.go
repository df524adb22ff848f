package plan_test

import (
	"math"
	"slices"
	"testing"

	"paternoster/plan"
)

const (
	least    = math.MinInt
	greatest = math.MaxInt
)

// speeds are all speeds, and such that count as other ones.
var speeds = []int{least, least + 1, -1 << 32, -1000, -9, -8, -2, -1, 0, 1, 2, 3, 4, 5, 6, 7, 8, 9, 10, 16, 255, 256, 1000, 1 << 32, greatest - 1, greatest}

// lefts are all numbers of places that count as they are, and such that don't.
func lefts() []int {
	l := []int{least, least + 1, -1 << 32, -1000, 1 << 16, 1 << 32, greatest - 1, greatest}
	for n := -9; n <= 1040; n++ {
		l = append(l, n)
	}
	return l
}

// counted is a number as it counts, where one below low is as low and one above high as high.
func counted(n, low, high int) int {
	if n < low {
		return low
	}
	if n > high {
		return high
	}
	return n
}

// gone is Stop, as the promise's words tell it.
func gone(speed int) int {
	places := 0
	for n := range counted(speed, 0, 8) {
		places += n
	}
	return places
}

// greatestNext is Next, as the promise's words tell it.
func greatestNext(speed, left, most int) int {
	speed, left, most = counted(speed, 0, 8), counted(left, 0, 1000), counted(most, 1, 8)
	found := 0
	for v := 0; v <= 8; v++ {
		if v <= most && v <= speed+1 && v >= speed-1 && v+gone(v) <= left {
			found = v
		}
	}
	return found
}

// way is the speeds of a way from rest, as the promise's words tell them; until nothing is left, or it stands though something is.
func way(left, most int) []int {
	left = counted(left, 0, 1000)
	var l []int
	for speed := 0; left > 0; {
		speed = greatestNext(speed, left, most)
		if speed == 0 {
			break
		}
		left -= speed
		l = append(l, speed)
	}
	return l
}

// driven is the speeds of a way from rest, with Next each tick; until nothing is left, or there were more ticks than places.
func driven(left, most int) []int {
	var l []int
	for speed, ticks := 0, 0; left > 0 && ticks <= 1000; ticks++ {
		speed = plan.Next(speed, left, most)
		left -= speed
		l = append(l, speed)
	}
	return l
}

// P6.1

func TestStop(t *testing.T) {
	for _, c := range []struct{ speed, want int }{
		{0, 0}, {1, 0}, {2, 1}, {3, 3}, {4, 6}, {5, 10}, {6, 15}, {7, 21}, {8, 28},
		// Speeds that count as other ones.
		{-1, 0}, {-2, 0}, {-8, 0}, {-1000, 0}, {least, 0}, {least + 1, 0},
		{9, 28}, {10, 28}, {99, 28}, {256, 28}, {1 << 32, 28}, {greatest - 1, 28}, {greatest, 28},
	} {
		if n := plan.Stop(c.speed); n != c.want {
			t.Errorf("Stop(%d) = %d, want %d", c.speed, n, c.want)
		}
	}
}

func TestStopIsWhatIsGoneOneSlowerEachTick(t *testing.T) {
	for _, speed := range speeds {
		if n, want := plan.Stop(speed), gone(speed); n != want {
			t.Errorf("Stop(%d) = %d, want %d", speed, n, want)
		}
	}
	for speed := 1; speed <= 8; speed++ {
		if n, want := plan.Stop(speed), speed-1+plan.Stop(speed-1); n != want {
			t.Errorf("Stop(%d) = %d, want %d: one slower, and Stop of that", speed, n, want)
		}
	}
}

// P6.2

func TestNext(t *testing.T) {
	for _, c := range []struct{ speed, left, most, want int }{
		// From rest.
		{0, 0, 8, 0}, {0, 1, 8, 1}, {0, 2, 8, 1}, {0, 1000, 8, 1}, {0, 1000, 1, 1},
		// One faster, as long as that many places, and Stop behind them, are left.
		{1, 2, 8, 1}, {1, 3, 8, 2}, {2, 5, 8, 2}, {2, 6, 8, 3}, {3, 9, 8, 3}, {3, 10, 8, 4},
		{6, 27, 8, 6}, {6, 28, 8, 7}, {7, 35, 8, 7}, {7, 36, 8, 8}, {8, 36, 8, 8}, {8, 1000, 8, 8},
		// As fast as before, or one slower.
		{1, 1, 8, 1}, {2, 3, 8, 2}, {2, 2, 8, 1}, {2, 1, 8, 1}, {4, 10, 8, 4}, {4, 9, 8, 3}, {4, 6, 8, 3}, {8, 35, 8, 7}, {8, 28, 8, 7},
		// No faster than most.
		{1, 1000, 1, 1}, {1, 1000, 2, 2}, {2, 1000, 2, 2}, {3, 1000, 2, 2}, {3, 3, 2, 2}, {4, 1000, 3, 3}, {8, 1000, 7, 7}, {2, 1000, 1, 1},
		// None: too little is left, or most is too far below.
		{1, 0, 8, 0}, {2, 0, 8, 0}, {3, 2, 8, 0}, {3, 1, 8, 0}, {4, 5, 8, 0}, {5, 3, 8, 0}, {5, 9, 8, 0}, {8, 27, 8, 0}, {8, 0, 8, 0},
		{3, 1000, 1, 0}, {4, 1000, 2, 0}, {8, 1000, 6, 0}, {8, 1000, 1, 0}, {3, 1000, 0, 0},
	} {
		if n := plan.Next(c.speed, c.left, c.most); n != c.want {
			t.Errorf("Next(%d, %d, %d) = %d, want %d", c.speed, c.left, c.most, n, c.want)
		}
	}
}

func TestNextOfWhatCountsAsOther(t *testing.T) {
	for _, c := range []struct{ speed, left, most, want int }{
		// A speed below 0, or above 8.
		{-1, 1000, 8, 1}, {-2, 1000, 8, 1}, {least, 1000, 8, 1}, {-1, 0, 8, 0},
		{9, 1000, 8, 8}, {9, 28, 8, 7}, {10, 1000, 7, 7}, {9, 1000, 6, 0}, {greatest, 1000, 8, 8}, {greatest, 28, 8, 7}, {greatest, 27, 8, 0},
		// Fewer left than none, or more than 1000.
		{1, -1, 8, 0}, {0, -1, 8, 0}, {0, least, 8, 0}, {1, least, 1, 0}, {0, 1001, 8, 1}, {4, greatest, 8, 5}, {7, greatest, 8, 8},
		// A most below 1, or above 8.
		{0, 1000, 0, 1}, {1, 1000, 0, 1}, {2, 1000, 0, 1}, {0, 1000, -1, 1}, {2, 1000, least, 1}, {3, 1000, least, 0}, {0, 0, 0, 0},
		{7, 1000, 9, 8}, {8, 1000, 9, 8}, {8, 1000, greatest, 8}, {3, 1000, greatest, 4},
		// All of it at once.
		{least, least, least, 0}, {greatest, greatest, greatest, 8}, {least, greatest, least, 1}, {greatest, greatest, least, 0}, {greatest, least, greatest, 0},
	} {
		if n := plan.Next(c.speed, c.left, c.most); n != c.want {
			t.Errorf("Next(%d, %d, %d) = %d, want %d", c.speed, c.left, c.most, n, c.want)
		}
	}
}

func TestNextOfEachSpeedLeftAndMost(t *testing.T) {
	for _, speed := range speeds {
		for _, left := range lefts() {
			for _, most := range speeds {
				if n, want := plan.Next(speed, left, most), greatestNext(speed, left, most); n != want {
					t.Fatalf("Next(%d, %d, %d) = %d, want %d", speed, left, most, n, want)
				}
			}
		}
	}
}

func TestTicks(t *testing.T) {
	for _, c := range []struct{ left, most, want int }{
		{9, 2, 6}, {0, 2, 0}, {1, 2, 1}, {2, 2, 2}, {3, 2, 3}, {4, 2, 3}, {16, 8, 7}, {15, 8, 7}, {17, 8, 8},
		{0, 1, 0}, {1, 1, 1}, {9, 1, 9}, {1000, 1, 1000}, {64, 8, 15}, {65, 8, 16}, {248, 8, 38}, {1000, 8, 132}, {1000, 2, 501},
		// What counts as other.
		{-1, 2, 0}, {least, 8, 0}, {1001, 1, 1000}, {2000, 1, 1000}, {greatest, 1, 1000}, {greatest, 8, 132}, {1001, 8, 132},
		{9, 0, 9}, {9, -1, 9}, {9, least, 9}, {1000, 9, 132}, {64, 9, 15}, {1000, greatest, 132}, {greatest, greatest, 132}, {greatest, least, 1000}, {least, least, 0},
	} {
		if n := plan.Ticks(c.left, c.most); n != c.want {
			t.Errorf("Ticks(%d, %d) = %d, want %d", c.left, c.most, n, c.want)
		}
	}
}

func TestTicksOfEachLeftAndMost(t *testing.T) {
	for _, left := range lefts() {
		for _, most := range speeds {
			if n, want := plan.Ticks(left, most), len(way(left, most)); n != want {
				t.Errorf("Ticks(%d, %d) = %d, want %d", left, most, n, want)
			}
		}
	}
}

func TestTheWayOfTheExample(t *testing.T) {
	if l := driven(9, 2); !slices.Equal(l, []int{1, 2, 2, 2, 1, 1}) {
		t.Errorf("9 places at 2 at most: %v", l)
	}
	if l := driven(16, 8); !slices.Equal(l, []int{1, 2, 3, 4, 3, 2, 1}) {
		t.Errorf("16 places at 8 at most: %v", l)
	}
}

// P6.3

// atRest tells of a way that doesn't come to rest just where nothing is left, or not in time, or not step by step.
func atRest(t *testing.T, left, most int) {
	t.Helper()
	l := driven(left, most)
	speed, places := 0, 0
	for _, next := range l {
		if next < speed-1 || next > speed+1 || next < 1 || next > most {
			t.Errorf("%d places at %d at most: %d behind %d", left, most, next, speed)
		}
		speed = next
		places += next
	}
	if places != left || speed > 1 || plan.Next(speed, left-places, most) != 0 {
		t.Errorf("%d places at %d at most: %v, %d places", left, most, l, places)
	}
	if len(l) > left || len(l) != plan.Ticks(left, most) {
		t.Errorf("%d places at %d at most: %d ticks, and Ticks = %d", left, most, len(l), plan.Ticks(left, most))
	}
}

func TestFromRestToRest(t *testing.T) {
	for most := 1; most <= 8; most++ {
		for left := 0; left <= 1000; left++ {
			atRest(t, left, most)
		}
	}
}

func TestNeverMoreThanOneSlower(t *testing.T) {
	// Whatever most is from one tick to the next, as long as it isn't more than one below the speed.
	for left := 0; left <= 1000; left++ {
		for _, mosts := range [][]int{{8, 7, 6, 5, 4, 3, 2, 1}, {1, 8}, {8, 8, 7}, {1, 2, 3, 4, 5, 6, 7, 8}} {
			speed, rest := 0, left
			for ticks := 0; rest > 0 && ticks <= left; ticks++ {
				most := max(mosts[ticks%len(mosts)], speed-1)
				next := plan.Next(speed, rest, most)
				if next < 1 || next < speed-1 || next > rest {
					t.Fatalf("Next(%d, %d, %d) = %d", speed, rest, most, next)
				}
				speed = next
				rest -= next
			}
			if rest != 0 || speed > 1 {
				t.Errorf("%d places at %v at most: %d left, at a speed of %d", left, mosts, rest, speed)
			}
		}
	}
}

// What holds in all layers

func TestAgainTheSame(t *testing.T) {
	for range 3 {
		if n := plan.Next(3, 10, 8); n != 4 {
			t.Errorf("Next(3, 10, 8) = %d", n)
		}
		if n := plan.Next(5, 3, 8); n != 0 {
			t.Errorf("Next(5, 3, 8) = %d", n)
		}
		if n := plan.Ticks(9, 2); n != 6 {
			t.Errorf("Ticks(9, 2) = %d", n)
		}
		if n := plan.Stop(4); n != 6 {
			t.Errorf("Stop(4) = %d", n)
		}
	}
}

func FuzzAsTheWordsSay(f *testing.F) {
	f.Add(0, 9, 2)
	f.Add(5, 3, 8)
	f.Add(4, 1000, 2)
	f.Add(-1, 1001, 0)
	f.Add(9, -1, 9)
	f.Fuzz(func(t *testing.T, speed, left, most int) {
		if n, want := plan.Stop(speed), gone(speed); n != want {
			t.Errorf("Stop(%d) = %d, want %d", speed, n, want)
		}
		if n, want := plan.Next(speed, left, most), greatestNext(speed, left, most); n != want {
			t.Errorf("Next(%d, %d, %d) = %d, want %d", speed, left, most, n, want)
		}
		if n, want := plan.Ticks(left, most), len(way(left, most)); n != want {
			t.Errorf("Ticks(%d, %d) = %d, want %d", left, most, n, want)
		}
	})
}
