package leaf_test

import (
	"math"
	"testing"

	"paternoster/leaf"
)

const (
	least    = math.MinInt
	greatest = math.MaxInt
)

// others are what may be asked for, but is neither Opens nor Shuts.
var others = []int{leaf.Hold, least, least + 1, -1 << 32, -1000, -256, -3, -2, -1, 3, 4, 7, 8, 255, 256, 257, 258, 1<<32 + 1, 1<<32 + 2, greatest - 1, greatest}

// leaves are doors of each width, open as far as can be told of.
func leaves() []leaf.Leaf {
	var l []leaf.Leaf
	for width := 1; width <= 16; width++ {
		for open := 0; open <= width; open++ {
			l = append(l, leaf.Leaf{Open: open, Width: width})
		}
	}
	return l
}

// stepped is Step, as the promise's words tell it.
func stepped(l leaf.Leaf, what int, blocked bool) leaf.Leaf {
	if what == 1 && l.Open != l.Width {
		return leaf.Leaf{Open: l.Open + 1, Width: l.Width}
	}
	if what == 2 && l.Open != 0 && !blocked {
		return leaf.Leaf{Open: l.Open - 1, Width: l.Width}
	}
	return l
}

// P8.1

func TestWhatIsDoneHasItsNumber(t *testing.T) {
	if leaf.Hold != 0 || leaf.Opens != 1 || leaf.Shuts != 2 {
		t.Errorf("Hold %d, Opens %d, Shuts %d", leaf.Hold, leaf.Opens, leaf.Shuts)
	}
}

func TestStep(t *testing.T) {
	for _, c := range []struct {
		open, width, what int
		blocked           bool
		want              int
	}{
		// The chapter's examples.
		{1, 4, leaf.Shuts, false, 0},
		{1, 4, leaf.Shuts, true, 1},
		// One more, but Width at most; blocked or not.
		{0, 4, leaf.Opens, false, 1}, {0, 4, leaf.Opens, true, 1},
		{2, 4, leaf.Opens, false, 3}, {2, 4, leaf.Opens, true, 3},
		{3, 4, leaf.Opens, false, 4}, {3, 4, leaf.Opens, true, 4},
		{4, 4, leaf.Opens, false, 4}, {4, 4, leaf.Opens, true, 4},
		{0, 1, leaf.Opens, false, 1}, {1, 1, leaf.Opens, false, 1}, {1, 1, leaf.Opens, true, 1},
		{15, 16, leaf.Opens, false, 16}, {16, 16, leaf.Opens, false, 16}, {16, 16, leaf.Opens, true, 16},
		// One less, but 0 at least; as it was, where blocked.
		{4, 4, leaf.Shuts, false, 3}, {4, 4, leaf.Shuts, true, 4},
		{2, 4, leaf.Shuts, false, 1}, {2, 4, leaf.Shuts, true, 2},
		{0, 4, leaf.Shuts, false, 0}, {0, 4, leaf.Shuts, true, 0},
		{1, 1, leaf.Shuts, false, 0}, {1, 1, leaf.Shuts, true, 1}, {0, 1, leaf.Shuts, false, 0},
		{16, 16, leaf.Shuts, false, 15}, {16, 16, leaf.Shuts, true, 16}, {0, 16, leaf.Shuts, false, 0},
		// Of all else as it was.
		{2, 4, leaf.Hold, false, 2}, {2, 4, leaf.Hold, true, 2},
		{0, 4, leaf.Hold, false, 0}, {4, 4, leaf.Hold, false, 4},
		{2, 4, -1, false, 2}, {2, 4, 3, false, 2}, {2, 4, 3, true, 2}, {2, 4, 7, false, 2},
	} {
		l := leaf.Leaf{Open: c.open, Width: c.width}
		if x, want := l.Step(c.what, c.blocked), (leaf.Leaf{Open: c.want, Width: c.width}); x != want {
			t.Errorf("%+v: Step(%d, %t) = %+v, want %+v", l, c.what, c.blocked, x, want)
		}
	}
}

func TestStepOfAllDoors(t *testing.T) {
	for _, l := range leaves() {
		for _, what := range append([]int{leaf.Opens, leaf.Shuts}, others...) {
			for _, blocked := range []bool{false, true} {
				if x, want := l.Step(what, blocked), stepped(l, what, blocked); x != want {
					t.Errorf("%+v: Step(%d, %t) = %+v, want %+v", l, what, blocked, x, want)
				}
			}
		}
	}
}

func TestOfAllElseAllIsAsItWas(t *testing.T) {
	// Doors too of which nothing else is told: nobody does anything with them.
	for _, open := range others {
		for _, width := range others {
			l := leaf.Leaf{Open: open, Width: width}
			for _, what := range others {
				for _, blocked := range []bool{false, true} {
					if x := l.Step(what, blocked); x != l {
						t.Fatalf("%+v: Step(%d, %t) = %+v", l, what, blocked, x)
					}
				}
			}
		}
	}
}

func TestShutWideLeft(t *testing.T) {
	for _, c := range []struct {
		open, width int
		shut, wide  bool
		left        int
	}{
		{0, 4, true, false, 4}, {1, 4, false, false, 3}, {2, 4, false, false, 2}, {3, 4, false, false, 1}, {4, 4, false, true, 0},
		{0, 1, true, false, 1}, {1, 1, false, true, 0},
		{0, 16, true, false, 16}, {1, 16, false, false, 15}, {15, 16, false, false, 1}, {16, 16, false, true, 0},
	} {
		l := leaf.Leaf{Open: c.open, Width: c.width}
		if l.Shut() != c.shut || l.Wide() != c.wide || l.Left() != c.left {
			t.Errorf("%+v: Shut %t, Wide %t, Left %d", l, l.Shut(), l.Wide(), l.Left())
		}
	}
}

func TestShutWideLeftOfAllDoors(t *testing.T) {
	for _, l := range leaves() {
		left := 0
		for open := l.Open; open < l.Width; open++ {
			left++
		}
		if n := l.Left(); n != left {
			t.Errorf("%+v: Left = %d, want %d", l, n, left)
		}
		if want := left == l.Width; l.Shut() != want {
			t.Errorf("%+v: Shut = %t", l, !want)
		}
		if want := left == 0; l.Wide() != want {
			t.Errorf("%+v: Wide = %t", l, !want)
		}
	}
}

func TestStepChangesNothingElse(t *testing.T) {
	l := leaf.Leaf{Open: 2, Width: 4}
	ahead := l
	for range 3 {
		if x := l.Step(leaf.Opens, true); x != (leaf.Leaf{Open: 3, Width: 4}) {
			t.Errorf("Step(Opens, true) = %+v", x)
		}
		if x := l.Step(leaf.Shuts, false); x != (leaf.Leaf{Open: 1, Width: 4}) {
			t.Errorf("Step(Shuts, false) = %+v", x)
		}
		if l != ahead {
			t.Fatalf("the doors themselves are %+v", l)
		}
	}
}

func TestDoorsOfWhichNothingIsTold(t *testing.T) {
	// Some answer; and no doors get another width.
	all := append([]int{0, 1, 2, 16, 17}, others...)
	for _, open := range all {
		for _, width := range all {
			l := leaf.Leaf{Open: open, Width: width}
			for _, what := range []int{leaf.Opens, leaf.Shuts} {
				if x := l.Step(what, false); x.Width != width {
					t.Errorf("%+v: Step(%d, false) = %+v", l, what, x)
				}
			}
			if x := l.Step(leaf.Shuts, true); x != l {
				t.Errorf("%+v: Step(Shuts, true) = %+v", l, x)
			}
			l.Shut()
			l.Wide()
			l.Left()
		}
	}
}

// P8.2

func TestDoorsThatOpenAreWideInAsManyTicksAsAreLeft(t *testing.T) {
	for _, first := range leaves() {
		for _, blocked := range []bool{false, true} {
			l, left := first, first.Left()
			for tick := range left {
				if l.Wide() || l.Left() != left-tick {
					t.Errorf("%+v: %+v after %d ticks", first, l, tick)
				}
				l = l.Step(leaf.Opens, blocked)
			}
			if !l.Wide() || l.Left() != 0 {
				t.Errorf("%+v: %+v after %d ticks", first, l, left)
			}
			if x := l.Step(leaf.Opens, blocked); x != l {
				t.Errorf("%+v: wide doors that open are %+v", first, x)
			}
		}
	}
}

// shutting is in how many ticks doors are shut, and in how many of these they were blocked.
func shutting(l leaf.Leaf, blocked func(tick int) bool) (ticks, held int) {
	const enough = 9999 // doors that never shut are no reason to wait for ever
	for !l.Shut() && ticks < enough {
		if blocked(ticks) {
			held++
		}
		l = l.Step(leaf.Shuts, blocked(ticks))
		ticks++
	}
	return ticks, held
}

func TestDoorsThatShutAreShutInAsManyTicksAsTheyAreOpen(t *testing.T) {
	for _, l := range leaves() {
		if ticks, _ := shutting(l, func(int) bool { return false }); ticks != l.Open {
			t.Errorf("%+v: shut in %d ticks", l, ticks)
		}
	}
}

func TestBlockedTicksAreOnTop(t *testing.T) {
	const ticksTold = 11 // each pattern of so many ticks; behind them nothing is in the way
	for _, l := range leaves() {
		for pattern := range 1 << ticksTold {
			ticks, held := shutting(l, func(tick int) bool { return pattern>>tick&1 == 1 })
			if ticks != l.Open+held {
				t.Fatalf("%+v, blocked as %b: shut in %d ticks, in %d of them blocked", l, pattern, ticks, held)
			}
		}
	}
}

func TestDoorsBlockedForLong(t *testing.T) {
	for _, l := range leaves() {
		for _, long := range []int{1, 16, 17, 200, 1000} {
			want := l.Open + long
			if l.Open == 0 {
				want = 0
			}
			if ticks, _ := shutting(l, func(tick int) bool { return tick < long }); ticks != want {
				t.Errorf("%+v, blocked for %d ticks: shut in %d", l, long, ticks)
			}
		}
	}
}

func TestDoorsStayWithinTheirWidth(t *testing.T) {
	for _, first := range leaves() {
		// Each row of four steps: of Hold, Opens and Shuts, blocked or not.
		for row := range 6 * 6 * 6 * 6 {
			l := first
			for n := row + 6*6*6*6; n > 1; n /= 6 {
				l = l.Step(n%6/2, n%2 == 1)
				if l.Open < 0 || l.Open > l.Width || l.Width != first.Width {
					t.Fatalf("%+v, steps %d: %+v", first, row, l)
				}
			}
		}
	}
}

func FuzzStepAsTheWordsSay(f *testing.F) {
	f.Add(1, 4, leaf.Shuts, false)
	f.Add(1, 4, leaf.Shuts, true)
	f.Add(4, 4, leaf.Opens, true)
	f.Add(greatest, least, leaf.Opens, false)
	f.Fuzz(func(t *testing.T, open, width, what int, blocked bool) {
		l := leaf.Leaf{Open: open, Width: width}
		x := l.Step(what, blocked)
		if width < 1 || width > 16 || open < 0 || open > width {
			return
		}
		if want := stepped(l, what, blocked); x != want {
			t.Errorf("%+v: Step(%d, %t) = %+v, want %+v", l, what, blocked, x, want)
		}
	})
}
