package sense_test

import (
	"math"
	"testing"

	"paternoster/sense"
)

const (
	least    = math.MinInt
	greatest = math.MaxInt
	maxCount = 1000
	maxMost  = 200
)

// some are numbers of all sizes, about 0 and far beyond what is told of.
var some = []int{least, least + 1, -1 << 32, -1000, -201, -200, -2, -1, 0, 1, 2, 199, 200, 201, 255, 256, 999, 1000, 1001, 1 << 31, 1 << 32, greatest - 1, greatest}

// both are what may be so.
var both = []bool{false, true}

// stepOf is Step, as the promise's words tell it.
func stepOf(s sense.Sense, is bool, most int) (sense.Sense, bool) {
	if is == s.Good {
		return sense.Sense{Good: s.Good, Count: 0}, false
	}
	if s.Count+1 >= most {
		return sense.Sense{Good: is, Count: 0}, true
	}
	return sense.Sense{Good: s.Good, Count: s.Count + 1}, false
}

// P18.1

func TestStep(t *testing.T) {
	type sensed = sense.Sense
	for _, c := range []struct {
		s      sensed
		is     bool
		most   int
		want   sensed
		turned bool
	}{
		// The chapter's example.
		{sensed{Good: true}, false, 2, sensed{Good: true, Count: 1}, false},
		{sensed{Good: true, Count: 1}, false, 2, sensed{}, true},
		// As it thinks: all doubt is gone.
		{sensed{}, false, 1, sensed{}, false},
		{sensed{Good: true}, true, 1, sensed{Good: true}, false},
		{sensed{Good: true, Count: 1}, true, 2, sensed{Good: true}, false},
		{sensed{Count: 1}, false, 2, sensed{}, false},
		{sensed{Good: true, Count: 199}, true, 200, sensed{Good: true}, false},
		{sensed{Count: 199}, false, 200, sensed{}, false},
		{sensed{Good: true, Count: 1000}, true, 1, sensed{Good: true}, false},
		{sensed{Count: 1000}, false, 1, sensed{}, false},
		// A most of 1: no flicker is too short.
		{sensed{Good: true}, false, 1, sensed{}, true},
		{sensed{}, true, 1, sensed{Good: true}, true},
		// One too few, and just enough.
		{sensed{}, true, 2, sensed{Count: 1}, false},
		{sensed{Count: 1}, true, 2, sensed{Good: true}, true},
		{sensed{Good: true, Count: 1}, false, 3, sensed{Good: true, Count: 2}, false},
		{sensed{Good: true, Count: 2}, false, 3, sensed{}, true},
		{sensed{Good: true}, false, 200, sensed{Good: true, Count: 1}, false},
		{sensed{Good: true, Count: 198}, false, 200, sensed{Good: true, Count: 199}, false},
		{sensed{Good: true, Count: 199}, false, 200, sensed{}, true},
		{sensed{Count: 198}, true, 200, sensed{Count: 199}, false},
		{sensed{Count: 199}, true, 200, sensed{Good: true}, true},
		// More than enough.
		{sensed{Good: true, Count: 7}, false, 3, sensed{}, true},
		{sensed{Count: 7}, true, 3, sensed{Good: true}, true},
		{sensed{Good: true, Count: 200}, false, 200, sensed{}, true},
		{sensed{Count: 201}, true, 200, sensed{Good: true}, true},
		{sensed{Good: true, Count: 1000}, false, 200, sensed{}, true},
		{sensed{Count: 1000}, true, 1, sensed{Good: true}, true},
	} {
		if x, turned := c.s.Step(c.is, c.most); x != c.want || turned != c.turned {
			t.Errorf("%+v: Step(%t, %d) = %+v, %t, want %+v, %t", c.s, c.is, c.most, x, turned, c.want, c.turned)
		}
	}
}

func TestStepOfEachCountAndMost(t *testing.T) {
	for count := 0; count <= maxCount; count++ {
		for most := 1; most <= maxMost; most++ {
			for _, good := range both {
				for _, is := range both {
					s := sense.Sense{Good: good, Count: count}
					want, wantTurned := stepOf(s, is, most)
					if x, turned := s.Step(is, most); x != want || turned != wantTurned {
						t.Fatalf("%+v: Step(%t, %d) = %+v, %t, want %+v, %t", s, is, most, x, turned, want, wantTurned)
					}
				}
			}
		}
	}
}

func TestStepChangesNothingElse(t *testing.T) {
	s := sense.Sense{Good: true, Count: 1}
	ahead := s
	for range 3 {
		if x, turned := s.Step(false, 3); x != (sense.Sense{Good: true, Count: 2}) || turned {
			t.Errorf("Step(false, 3) = %+v, %t", x, turned)
		}
		if x, turned := s.Step(false, 2); x != (sense.Sense{}) || !turned {
			t.Errorf("Step(false, 2) = %+v, %t", x, turned)
		}
		if x, turned := s.Step(true, 2); x != (sense.Sense{Good: true}) || turned {
			t.Errorf("Step(true, 2) = %+v, %t", x, turned)
		}
		if s != ahead {
			t.Fatalf("the sense itself is %+v", s)
		}
	}
}

func TestOfWhichNothingIsTold(t *testing.T) {
	// Some answer, and the same one each time.
	for _, count := range some {
		for _, most := range some {
			for _, good := range both {
				for _, is := range both {
					s := sense.Sense{Good: good, Count: count}
					x, turned := s.Step(is, most)
					if y, again := s.Step(is, most); y != x || again != turned {
						t.Errorf("%+v: Step(%t, %d) = %+v, %t, then %+v, %t", s, is, most, x, turned, y, again)
					}
				}
			}
		}
	}
}

// P18.2

// past is all that was so, tick by tick, what is taken to be so, and behind how many of the ticks that came to mind.
type past struct {
	is    []bool
	mind  bool
	since int
}

// turns tells whether another mind comes behind a tick, as the promise's words tell it: by looking back.
func (p *past) turns(is bool, most int) bool {
	p.is = append(p.is, is)
	onEnd := 0
	for i := len(p.is) - 1; i >= p.since && p.is[i] != p.mind; i-- {
		onEnd++
	}
	if onEnd < most {
		return false
	}
	p.mind, p.since = !p.mind, len(p.is)
	return true
}

// follows tells of the first tick in which a sense is of another mind than the words say.
func follows(t *testing.T, good bool, most int, row []bool) {
	t.Helper()
	s, p := sense.Sense{Good: good}, past{mind: good}
	for tick, is := range row {
		x, turned := s.Step(is, most)
		if want := p.turns(is, most); turned != want || x.Good != p.mind || turned != (x.Good != s.Good) {
			t.Fatalf("first %t, most %d, %v: in tick %d %+v, %t, want %t, %t", good, most, row[:tick+1], tick, x, turned, p.mind, want)
		}
		s = x
	}
}

func TestItComesToAnotherMindBehindMostTicksOnEnd(t *testing.T) {
	const ticks = 12 // each row of so many ticks
	row := make([]bool, ticks)
	for pattern := range 1 << ticks {
		for i := range row {
			row[i] = pattern>>i&1 == 1
		}
		for most := 1; most <= ticks+1; most++ {
			for _, good := range both {
				follows(t, good, most, row)
			}
		}
	}
}

func TestFlickersAboutMost(t *testing.T) {
	// Each row of five flickers: of a tick, and of one less than most, most, and one more.
	const flickers = 5
	for _, most := range []int{1, 2, 3, 7, 64, 199, 200} {
		long := []int{1, max(1, most-1), most, most + 1}
		for pattern := range 1 << (2 * flickers) {
			var row []bool
			for i := range flickers {
				for range long[pattern>>(2*i)&3] {
					row = append(row, i%2 == 1)
				}
			}
			for _, good := range both {
				follows(t, good, most, row)
			}
		}
	}
}

func TestWhatIsSoForGoodIsToldOnce(t *testing.T) {
	for most := 1; most <= maxMost; most++ {
		for _, good := range both {
			s := sense.Sense{Good: good}
			for tick := 1; tick <= 3*most+3; tick++ {
				var turned bool
				s, turned = s.Step(!good, most)
				if want := good == (tick < most); s.Good != want || turned != (tick == most) {
					t.Fatalf("Good %t, most %d: in tick %d %+v, %t", good, most, tick, s, turned)
				}
			}
			// And back: as long again, not sooner.
			for tick := 1; tick <= most+3; tick++ {
				var turned bool
				if s, turned = s.Step(good, most); turned != (tick == most) {
					t.Fatalf("back to Good %t, most %d: in tick %d %+v, %t", good, most, tick, s, turned)
				}
			}
		}
	}
}

func TestAFlickerIsNone(t *testing.T) {
	// One tick short of enough, again and again, with one tick between: never another mind.
	for most := 1; most <= maxMost; most++ {
		for _, good := range both {
			s := sense.Sense{Good: good}
			for tick := 1; tick <= 20*most; tick++ {
				var turned bool
				s, turned = s.Step(good == (tick%most == 0), most)
				if want := (sense.Sense{Good: good, Count: tick % most}); s != want || turned {
					t.Fatalf("Good %t, most %d: in tick %d %+v, %t, want %+v", good, most, tick, s, turned, want)
				}
			}
		}
	}
}

func TestWhatWasCountedCounts(t *testing.T) {
	// A Count is of ticks on end, wherever it comes from.
	for count := 0; count <= maxCount; count += 1 + count/20 {
		for most := 1; most <= maxMost; most += 1 + most/20 {
			for _, good := range both {
				s, ticks := sense.Sense{Good: good, Count: count}, 0
				for turned := false; !turned && ticks <= maxMost; ticks++ {
					s, turned = s.Step(!good, most)
				}
				if ticks != max(1, most-count) || s != (sense.Sense{Good: !good}) {
					t.Fatalf("Good %t, Count %d, most %d: behind %d ticks %+v", good, count, most, ticks, s)
				}
			}
		}
	}
}

func FuzzStepAsTheWordsSay(f *testing.F) {
	f.Add(true, 0, false, 2)
	f.Add(true, 1, false, 2)
	f.Add(false, 199, true, 200)
	f.Add(false, 1000, false, 1)
	f.Add(true, greatest, false, least)
	f.Fuzz(func(t *testing.T, good bool, count int, is bool, most int) {
		s := sense.Sense{Good: good, Count: count}
		x, turned := s.Step(is, most)
		if count < 0 || count > maxCount || most < 1 || most > maxMost {
			return
		}
		if want, wantTurned := stepOf(s, is, most); x != want || turned != wantTurned {
			t.Errorf("%+v: Step(%t, %d) = %+v, %t, want %+v, %t", s, is, most, x, turned, want, wantTurned)
		}
	})
}
