package watch_test

import (
	"math"
	"reflect"
	"slices"
	"testing"

	"paternoster/api"
	"paternoster/conf"
	"paternoster/feed"
	"paternoster/group"
	"paternoster/phase"
	"paternoster/rates"
	"paternoster/watch"
)

const (
	least    = math.MinInt
	greatest = math.MaxInt
	widest   = math.MaxUint64
)

// lags are how many ticks later a capacity may be known, and what isn't.
var lags = []int{least, -1 << 32, -9, -1, 0, 1, 2, 3, 7, 8, 9, 10, 64, 256, 1 << 32, 1<<32 + 1, greatest}

// plain is a group of two cars, without batteries.
func plain() conf.Conf {
	return conf.Conf{
		Banks:  []conf.Bank{{Cars: 2, Rates: rates.Rates{Idle: 1, Move: 4, Gain: 5, Pull: 1, Door: 3, Weight: 10}}},
		Floors: 3, Order: []int{1, 0}, Speed: 2, Width: 2, Dwell: 1, Good: 2, Dead: 2, Turn: 5, Cost: 1,
	}
}

// begun is a world of a group.
func begun(t *testing.T, c conf.Conf) *group.World {
	t.Helper()
	w, err := group.New(c)
	if err != api.OK {
		t.Fatalf("New(%+v): error %d", c, err)
	}
	return w
}

// ev is an event.
func ev(kind, car, n int) group.Event { return group.Event{Kind: kind, Car: car, N: n} }

// calm is a tick in which mains are there.
func calm(events ...group.Event) group.In { return group.In{Mains: true, Events: events} }

// dark is a tick in which only the generator is there.
func dark(capacity int) group.In { return group.In{Gen: true, Capacity: capacity} }

// gen is a fact in which power comes from the generator, of a car that is Stalled.
func gen(drawn, capacity int) watch.Fact {
	return watch.Fact{Power: feed.Gen, Drawn: drawn, Capacity: capacity, Phases: []int{phase.Stalled}}
}

// row is a fact of phases alone.
func row(phases ...int) watch.Fact { return watch.Fact{Phases: phases} }

// rest is a fact of cars that rest alone.
func rest(bits uint64) watch.Fact { return watch.Fact{Rests: bits} }

// copied are facts in new memory.
func copied(facts []watch.Fact) []watch.Fact {
	l := slices.Clone(facts)
	for i := range l {
		l[i].Phases = slices.Clone(l[i].Phases)
	}
	return l
}

// same tells whether two facts are one: nil and empty lists are.
func same(a, b watch.Fact) bool {
	return a.Power == b.Power && a.Drawn == b.Drawn && a.Capacity == b.Capacity && slices.Equal(a.Phases, b.Phases) && a.Rests == b.Rests
}

// chance is a row of numbers that looks like one by chance.
type chance struct{ seed uint32 }

// below is the next one, from 0 to below n.
func (c *chance) below(n int) int {
	c.seed = c.seed*1664525 + 1013904223
	return int(uint64(c.seed>>8) % uint64(n))
}

// oneIn tells, as often as one time in so many.
func (c *chance) oneIn(many int) bool { return c.below(many) == 0 }

// told is what was known of the capacity in the tick of a place, as the words tell it.
func told(lag, place int, facts []watch.Fact) int {
	if lag < 0 {
		lag = 0
	}
	if lag > 8 {
		lag = 8
	}
	if place-lag < 0 {
		return 0
	}
	capacity := facts[place-lag].Capacity
	if capacity < 0 {
		return 0
	}
	if capacity > 1048576 {
		return 1048576
	}
	return capacity
}

// tooMuch tells whether too much is drawn in the tick of a place, as the words tell it.
func tooMuch(lag, place int, facts []watch.Fact) bool {
	return facts[place].Power == 2 && facts[place].Drawn > told(lag, place, facts)
}

// breaks tells whether the phases of a place don't follow those ahead, or don't fit, of the first one.
func breaks(place int, facts []watch.Fact) bool {
	if place == 0 {
		return !phase.Fits(facts[0].Phases)
	}
	return !phase.Follows(facts[place-1].Phases, facts[place].Phases)
}

// firstOf is the first place, from one on, that is as looked for; -1, if there is none.
func firstOf(from, many int, is func(place int) bool) int {
	for place := range many {
		if place >= from && is(place) {
			return place
		}
	}
	return -1
}

// overOf is Over, as the words tell it.
func overOf(lag int, facts []watch.Fact) int {
	return firstOf(0, len(facts), func(place int) bool { return tooMuch(lag, place, facts) })
}

// breaksOf is Breaks, as the words tell it.
func breaksOf(facts []watch.Fact) int {
	return firstOf(0, len(facts), func(place int) bool { return breaks(place, facts) })
}

// freesOf is Frees, as the words tell it.
func freesOf(car, from int, facts []watch.Fact) int {
	if from < 0 {
		from = 0
	}
	place := firstOf(from, len(facts), func(place int) bool {
		return 0 <= car && car <= 63 && facts[place].Rests>>car%2 == 1
	})
	if place < 0 {
		return -1
	}
	return place - from
}

// badOf is Bad of a lag, when all of some facts were told, as the words tell it.
func badOf(lag int, facts []watch.Fact) int {
	many := 0
	for place := range facts {
		if tooMuch(lag, place, facts) || breaks(place, facts) {
			many++
		}
	}
	return many
}

// holds tells of facts of which something else is told than the words say.
func holds(t *testing.T, lag int, facts []watch.Fact) {
	t.Helper()
	if x, want := watch.Over(lag, facts...), overOf(lag, facts); x != want {
		t.Fatalf("Over(%d, %+v) = %d, want %d", lag, facts, x, want)
	}
	if x, want := watch.Breaks(facts...), breaksOf(facts); x != want {
		t.Fatalf("Breaks(%+v) = %d, want %d", facts, x, want)
	}
	w := watch.New(lag)
	if w.Bad() != 0 {
		t.Fatalf("New(%d): Bad = %d", lag, w.Bad())
	}
	for i, f := range facts {
		ahead := facts[:i+1]
		well := w.Tell(f)
		if want := overOf(lag, ahead) == -1 && breaksOf(ahead) == -1; well != want {
			t.Fatalf("New(%d), %+v: Tell = %t, want %t", lag, ahead, well, want)
		}
		if want := badOf(lag, ahead); w.Bad() != want {
			t.Fatalf("New(%d), %+v: Bad = %d, want %d", lag, ahead, w.Bad(), want)
		}
		// What P25.3 says, by what the program itself tells.
		if well != (watch.Over(lag, ahead...) == -1 && watch.Breaks(ahead...) == -1) {
			t.Fatalf("New(%d), %+v: Tell = %t, but Over = %d, Breaks = %d", lag, ahead, well, watch.Over(lag, ahead...), watch.Breaks(ahead...))
		}
	}
}

// P25.1: See

// seen tells of a world that is seen otherwise than it is, whatever the width.
func seen(t *testing.T, w *group.World, in group.In) {
	t.Helper()
	for _, width := range []int{least, -1, 0, 1, 2, 3, 16, 1 << 32, greatest} {
		want := watch.Fact{Power: w.Power(), Drawn: w.Drawn(), Capacity: in.Capacity}
		for i, c := range w.Cars() {
			want.Phases = append(want.Phases, c.Phase)
			if c.Vel == 0 && c.Pos%8 == 0 && c.Open == width {
				want.Rests += 1 << i
			}
		}
		if f := watch.See(w, in, width); !same(f, want) {
			t.Fatalf("See(.., %+v, %d) = %+v, want %+v, of %+v", in, width, f, want, w.Cars())
		}
	}
}

func TestSeeOfATick(t *testing.T) {
	w := begun(t, plain())
	in := calm(ev(group.Call, 0, 1), ev(group.Fault, 1, 0))
	in.Capacity = 7
	w.Tick(in)
	// The doors of car 0 are open by 1, those of car 1 are wide.
	for _, c := range []struct {
		width int
		rests uint64
	}{{2, 2}, {1, 1}, {0, 0}, {3, 0}, {-1, 0}, {-2, 0}, {18, 0}, {1<<32 + 2, 0}, {least, 0}, {greatest, 0}} {
		want := watch.Fact{Power: feed.Mains, Drawn: 3, Capacity: 7, Phases: []int{phase.Normal, phase.Out}, Rests: c.rests}
		if f := watch.See(w, in, c.width); !same(f, want) {
			t.Errorf("See(.., %d) = %+v, want %+v", c.width, f, want)
		}
	}
}

func TestSeeTellsTheCapacityOfIn(t *testing.T) {
	w := begun(t, plain())
	for _, capacity := range []int{least, -1 << 32, -1, 0, 1, 9, 1 << 20, 1<<20 + 1, 1 << 32, greatest} {
		// It is as it is handed in, whatever the tick was told.
		w.Tick(dark(5))
		if f := watch.See(w, dark(capacity), 2); f.Capacity != capacity {
			t.Errorf("%d: Capacity = %d", capacity, f.Capacity)
		}
	}
}

func TestSeeTellsThePowerOfTheWorld(t *testing.T) {
	c := plain()
	w := begun(t, c)
	if f := watch.See(w, calm(), 2); f.Power != feed.None || f.Drawn != 0 || f.Rests != 3 {
		t.Errorf("ahead of all ticks: %+v", f)
	}
	var powers []int
	step := func(many int, in group.In) {
		for range many {
			w.Tick(in)
			seen(t, w, in)
		}
		powers = append(powers, watch.See(w, in, 2).Power)
	}
	step(1, calm())
	step(1, dark(500))
	step(6, dark(500))
	step(20, calm())
	// What is handed in as mains or generator is the tick's, not the world's.
	if f := watch.See(w, dark(3), 2); f.Power != feed.Mains {
		t.Errorf("Power = %d", f.Power)
	}
	if want := []int{feed.Mains, feed.None, feed.Gen, feed.Mains}; !slices.Equal(powers, want) {
		t.Errorf("powers are %v, want %v", powers, want)
	}
}

func TestSeeOfCarsThatGo(t *testing.T) {
	c := plain()
	c.Speed = 1
	w := begun(t, c)
	w.Tick(calm(ev(group.Call, 0, 2)))
	passed := false
	for range 40 {
		w.Tick(calm())
		seen(t, w, calm())
		// One that goes by a floor with shut doors doesn't rest there, however wide they should be.
		if a := w.Cars()[0]; a.Pos == 8 {
			passed = true
			if f := watch.See(w, calm(), 0); a.Vel != 1 || a.Open != 0 || f.Rests != 0 {
				t.Errorf("%+v: Rests = %d", a, f.Rests)
			}
		}
	}
	if f := watch.See(w, calm(), 2); !passed || f.Rests != 3 || w.Cars()[0].Pos != 16 {
		t.Errorf("at the end: %+v of %+v", f, w.Cars())
	}
}

func TestSeeOfCarsBetweenFloors(t *testing.T) {
	c := plain()
	w := begun(t, c)
	w.Tick(calm(ev(group.Call, 1, 2)))
	for range 5 {
		w.Tick(calm())
	}
	for range 3 {
		w.Tick(group.In{})
		seen(t, w, group.In{})
	}
	f := watch.See(w, group.In{}, 0)
	if a := w.Cars()[1]; a.Vel != 0 || a.Pos%8 == 0 || a.Open != 0 || f.Rests != 0 {
		t.Errorf("%+v: %+v", a, f)
	}
	if f = watch.See(w, group.In{}, 2); f.Rests != 1 || !slices.Equal(f.Phases, []int{phase.Stalled, phase.Stalled}) {
		t.Errorf("%+v", f)
	}
}

func TestSeeOfCarsAtEachPlace(t *testing.T) {
	c := plain()
	c.Speed = 1
	var places [17]bool
	for ticks := range 24 {
		w := begun(t, c)
		w.Tick(calm(ev(group.Call, 1, 2)))
		for range ticks {
			w.Tick(calm())
		}
		w.Tick(group.In{})
		seen(t, w, group.In{})
		if a := w.Cars()[1]; a.Vel == 0 && a.Open == 0 {
			places[a.Pos] = true
			level := a.Pos == 0 || a.Pos == 8 || a.Pos == 16
			if f := watch.See(w, group.In{}, 0); (f.Rests == 2) != level {
				t.Errorf("%+v: Rests = %d", a, f.Rests)
			}
		}
	}
	if slices.Contains(places[:], false) {
		t.Errorf("it stood at %v only", places)
	}
}

func TestSeeOfManyCars(t *testing.T) {
	c := plain()
	c.Banks, c.Order = slices.Repeat([]conf.Bank{{Cars: 8}}, 8), nil
	for i := range 64 {
		c.Order = append(c.Order, i)
	}
	w := begun(t, c)
	w.Tick(calm())
	if f := watch.See(w, calm(), 2); f.Rests != widest || len(f.Phases) != 64 {
		t.Errorf("%+v", f)
	}
	in := calm(ev(group.Call, 63, 1), ev(group.Call, 31, 1), ev(group.Call, 32, 1), ev(group.Call, 0, 1), ev(group.Fault, 62, 0))
	w.Tick(in)
	seen(t, w, in)
	// The doors of those that are called shut.
	if f := watch.See(w, in, 2); f.Rests != widest-1<<63-1<<32-1<<31-1 || f.Phases[62] != phase.Out || f.Phases[63] != phase.Normal {
		t.Errorf("%+v", f)
	}
	if f := watch.See(w, in, 1); f.Rests != 1<<63+1<<32+1<<31+1 {
		t.Errorf("%+v", f)
	}
}

func TestSeeOfNil(t *testing.T) {
	in := dark(7)
	for _, w := range []*group.World{nil, {}} {
		for _, width := range []int{least, -1, 0, 2, greatest} {
			if f := watch.See(w, in, width); !same(f, watch.Fact{Capacity: 7}) {
				t.Errorf("See(%v, .., %d) = %+v", w, width, f)
			}
		}
	}
}

func TestSeeIsNewMemory(t *testing.T) {
	w := begun(t, plain())
	in := calm(ev(group.Call, 0, 1), ev(9, 9, 9))
	events := slices.Clone(in.Events)
	w.Tick(in)
	f, g := watch.See(w, in, 2), watch.See(w, in, 2)
	f.Phases[0], f.Phases[1] = 9, 9
	if h := watch.See(w, in, 2); !same(g, h) || !slices.Equal(g.Phases, []int{0, 0}) || w.Cars()[0].Phase != 0 {
		t.Errorf("%+v, %+v", g, h)
	}
	if !slices.Equal(in.Events, events) {
		t.Errorf("%v became %v", events, in.Events)
	}
	// It stays as it was seen, whatever happens then.
	for range 5 {
		w.Tick(group.In{})
	}
	if !slices.Equal(g.Phases, []int{0, 0}) {
		t.Errorf("%+v", g)
	}
}

func TestSeeChangesNothing(t *testing.T) {
	looked, alone := begun(t, plain()), begun(t, plain())
	for tick := range 60 {
		in := calm(ev(group.Call, tick%2, tick%3))
		if tick > 20 && tick < 40 {
			in = dark(300)
		}
		looked.Tick(in)
		alone.Tick(in)
		watch.See(looked, in, 2)
		if !slices.Equal(looked.Cars(), alone.Cars()) || looked.Drawn() != alone.Drawn() || looked.Mode() != alone.Mode() {
			t.Fatalf("tick %d: %+v and %+v", tick, looked.Cars(), alone.Cars())
		}
	}
}

// P25.1: Over

func TestTheChaptersExample(t *testing.T) {
	if x := watch.Over(0, gen(5, 4)); x != 0 {
		t.Errorf("Over = %d", x)
	}
}

func TestOver(t *testing.T) {
	mains, no := gen(9, 0), gen(9, 0)
	mains.Power, no.Power = feed.Mains, feed.None
	for i, c := range []struct {
		lag   int
		facts []watch.Fact
		is    int
	}{
		{0, nil, -1}, {8, nil, -1}, {-1, nil, -1},
		// As much as is known may be drawn.
		{0, []watch.Fact{gen(4, 4)}, -1}, {0, []watch.Fact{gen(5, 4)}, 0}, {0, []watch.Fact{gen(0, 0)}, -1}, {0, []watch.Fact{gen(1, 0)}, 0},
		// The first one of several, wherever it is.
		{0, []watch.Fact{gen(1, 1), gen(2, 1), gen(3, 1)}, 1}, {0, []watch.Fact{gen(1, 1), gen(1, 1), gen(3, 1)}, 2}, {0, []watch.Fact{gen(2, 1), gen(1, 1), gen(3, 1)}, 0},
		// From elsewhere whatever is drawn.
		{0, []watch.Fact{mains}, -1}, {0, []watch.Fact{no, mains, gen(1, 0)}, 2}, {3, []watch.Fact{no, mains}, -1},
		// Known later: until then nothing is.
		{1, []watch.Fact{gen(1, 9)}, 0}, {1, []watch.Fact{gen(0, 9), gen(9, 0)}, -1}, {1, []watch.Fact{gen(0, 9), gen(10, 99)}, 1}, {1, []watch.Fact{gen(0, 9), gen(9, 0), gen(1, 9)}, 2},
		{2, []watch.Fact{gen(0, 9), gen(1, 9)}, 1}, {2, []watch.Fact{gen(0, 9), gen(0, 0), gen(9, 0)}, -1}, {2, []watch.Fact{gen(0, 9), gen(0, 8), gen(9, 0), gen(9, 0)}, 3},
		// Told is what capacity there was, wherever power came from.
		{1, []watch.Fact{{Capacity: 9}, gen(9, 0)}, -1}, {1, []watch.Fact{{Power: feed.Mains, Capacity: 8}, gen(9, 0)}, 1},
		// What is told is bounded.
		{0, []watch.Fact{gen(0, -1)}, -1}, {0, []watch.Fact{gen(1, -1)}, 0}, {0, []watch.Fact{gen(-1, -2)}, -1}, {0, []watch.Fact{gen(least, least)}, -1},
		{0, []watch.Fact{gen(1<<20, 1<<20)}, -1}, {0, []watch.Fact{gen(1<<20, greatest)}, -1}, {0, []watch.Fact{gen(1<<20+1, greatest)}, 0}, {0, []watch.Fact{gen(greatest, greatest)}, 0},
		// What is drawn isn't.
		{0, []watch.Fact{gen(greatest, 9)}, 0}, {0, []watch.Fact{gen(1<<32, 9)}, 0}, {0, []watch.Fact{gen(-5, 0)}, -1},
	} {
		if x := watch.Over(c.lag, c.facts...); x != c.is {
			t.Errorf("%d: Over(%d, %+v) = %d, want %d", i, c.lag, c.facts, x, c.is)
		}
	}
}

func TestOverOfOtherPowers(t *testing.T) {
	for _, power := range []int{least, -2, -1, 0, 1, 3, 4, 258, 1<<32 + 2, greatest} {
		f := gen(9, 0)
		f.Power = power
		if x := watch.Over(0, f); x != -1 {
			t.Errorf("%d: Over = %d", power, x)
		}
	}
}

func TestOverOfLags(t *testing.T) {
	for _, lag := range lags {
		want := max(0, min(lag, 8))
		// Nothing may be drawn until the first capacity is known.
		facts := slices.Repeat([]watch.Fact{gen(0, 5)}, 20)
		if x := watch.Over(lag, facts...); x != -1 {
			t.Errorf("%d: Over = %d", lag, x)
		}
		facts[want].Drawn = 5
		if x := watch.Over(lag, facts...); x != -1 {
			t.Errorf("%d: of 5 in tick %d Over = %d", lag, want, x)
		}
		facts[want].Drawn = 6
		if x := watch.Over(lag, facts...); x != want {
			t.Errorf("%d: of 6 in tick %d Over = %d", lag, want, x)
		}
		if want > 0 {
			facts[want-1].Drawn = 1
			if x := watch.Over(lag, facts...); x != want-1 {
				t.Errorf("%d: of 1 in tick %d Over = %d", lag, want-1, x)
			}
		}
	}
}

func TestOverOfPhases(t *testing.T) {
	// Whatever the phases are.
	bad := gen(4, 4)
	bad.Phases = []int{9, 9}
	if x := watch.Over(0, bad, bad); x != -1 {
		t.Errorf("Over = %d", x)
	}
}

// P25.1: Breaks

func TestBreaks(t *testing.T) {
	const n, s, r, p, v, o = phase.Normal, phase.Stalled, phase.Recall, phase.Parked, phase.Serving, phase.Out
	for i, c := range []struct {
		facts []watch.Fact
		is    int
	}{
		{nil, -1}, {[]watch.Fact{}, -1}, {[]watch.Fact{row()}, -1}, {[]watch.Fact{row(), row()}, -1}, {[]watch.Fact{row(), row(), row(s)}, 2}, {[]watch.Fact{row(s), row()}, 1},
		// The first one fits.
		{[]watch.Fact{row(n, n)}, -1}, {[]watch.Fact{row(r, v)}, 0}, {[]watch.Fact{row(n, s)}, 0}, {[]watch.Fact{row(6)}, 0}, {[]watch.Fact{row(-1)}, 0}, {[]watch.Fact{row(v), row(v)}, -1},
		{[]watch.Fact{row(least)}, 0}, {[]watch.Fact{row(greatest)}, 0}, {[]watch.Fact{row(1 << 32)}, 0},
		// Each other one follows.
		{[]watch.Fact{row(n, n), row(s, s), row(r, s), row(p, s), row(p, r), row(p, p), row(v, p), row(p, v), row(n, n)}, -1},
		{[]watch.Fact{row(n, n), row(s, s), row(r, s), row(p, s), row(p, p)}, 4}, {[]watch.Fact{row(n), row(r)}, 1}, {[]watch.Fact{row(s), row(s), row(s), row(v)}, 3},
		{[]watch.Fact{row(s, s), row(r, r)}, 1}, {[]watch.Fact{row(s, s), row(r, s, s)}, 1}, {[]watch.Fact{row(n, n), row(o, s), row(n, s)}, 2}, {[]watch.Fact{row(n, n), row(o, n), row(n, n)}, -1},
		// The first one of several.
		{[]watch.Fact{row(n), row(r), row(n), row(r)}, 1}, {[]watch.Fact{row(9), row(9)}, 0},
	} {
		if x := watch.Breaks(c.facts...); x != c.is {
			t.Errorf("%d: Breaks(%+v) = %d, want %d", i, c.facts, x, c.is)
		}
	}
}

func TestBreaksOfWhatIsDrawn(t *testing.T) {
	// However much is drawn.
	if x := watch.Breaks(gen(9, 0), gen(greatest, 0)); x != -1 {
		t.Errorf("Breaks = %d", x)
	}
}

// P25.1: Frees

func TestFrees(t *testing.T) {
	facts := []watch.Fact{rest(0), rest(2), rest(0), rest(6), rest(1 << 63), rest(widest)}
	for _, c := range []struct{ car, from, is int }{
		{1, 0, 1}, {1, 1, 0}, {1, 2, 1}, {1, 3, 0}, {1, 4, 1}, {1, 5, 0}, {1, 6, -1},
		{0, 0, 5}, {0, 5, 0}, {0, 6, -1}, {2, 0, 3}, {2, 3, 0}, {2, 4, 1}, {63, 0, 4}, {63, 4, 0}, {63, 5, 0}, {62, 0, 5},
		// From 0 on, if it is below.
		{1, -1, 1}, {1, -9, 1}, {1, least, 1}, {63, -1 << 32, 4}, {0, least + 1, 5},
		// Behind all of them there is none.
		{1, 7, -1}, {1, 1 << 32, -1}, {1, greatest - 1, -1}, {1, greatest, -1},
		// A car that has no bit.
		{64, 0, -1}, {65, 0, -1}, {-1, 0, -1}, {-63, 0, -1}, {127, 0, -1}, {256, 0, -1}, {1<<32 + 1, 0, -1}, {least, 0, -1}, {greatest, 0, -1}, {least, least, -1}, {greatest, greatest, -1},
	} {
		if x := watch.Frees(c.car, c.from, facts...); x != c.is {
			t.Errorf("Frees(%d, %d, ..) = %d, want %d", c.car, c.from, x, c.is)
		}
	}
	for _, from := range []int{least, -1, 0, 1, greatest} {
		if x := watch.Frees(0, from); x != -1 {
			t.Errorf("Frees(0, %d) = %d, of no facts", from, x)
		}
	}
	if x := watch.Frees(3, 0, rest(widest-8), rest(0)); x != -1 {
		t.Errorf("Frees = %d, of one that never rests", x)
	}
}

func TestFreesOfWhatElseIsSeen(t *testing.T) {
	// Phases, and what is drawn, are nothing to it.
	bad := gen(9, 0)
	bad.Phases = []int{9}
	well := bad
	well.Rests = 1
	if x := watch.Frees(0, 0, bad, bad, well); x != 2 {
		t.Errorf("Frees = %d", x)
	}
}

func TestFactsThatAreHandedInStay(t *testing.T) {
	facts := []watch.Fact{gen(1, 2), gen(3, 2), row(9, 9), rest(7), gen(0, 0)}
	want := copied(facts)
	watch.Over(3, facts...)
	watch.Breaks(facts...)
	watch.Frees(1, 1, facts...)
	w := watch.New(2)
	for _, f := range facts {
		w.Tell(f)
	}
	if !slices.EqualFunc(facts, want, same) {
		t.Errorf("%+v became %+v", want, facts)
	}
}

func TestSameCallsHaveTheSameAnswers(t *testing.T) {
	facts := []watch.Fact{gen(1, 5), gen(5, 2), gen(3, 9), gen(9, 9), gen(9, 9)}
	for range 3 {
		if x := watch.Over(1, facts...); x != 0 {
			t.Errorf("Over = %d", x)
		}
		if x := watch.Over(0, facts...); x != 1 {
			t.Errorf("Over = %d", x)
		}
	}
}

// P25.2

func TestTell(t *testing.T) {
	w := watch.New(1)
	if w.Bad() != 0 {
		t.Errorf("Bad = %d, of nothing", w.Bad())
	}
	for i, c := range []struct {
		fact watch.Fact
		well bool
		bad  int
	}{
		{gen(0, 4), true, 0}, {gen(4, 3), true, 0}, {gen(3, 9), true, 0},
		// Too much: from then on not all was well.
		{gen(10, 5), false, 1}, {gen(5, 9), false, 1}, {gen(0, 9), false, 1},
		{gen(10, 9), false, 2}, {gen(10, 9), false, 3},
		// Phases don't follow: that one, and the one that goes on from there.
		{row(phase.Serving), false, 4}, {row(phase.Serving), false, 4}, {row(phase.Parked), false, 4},
		// Both at once is one.
		{watch.Fact{Power: feed.Gen, Drawn: 9, Capacity: 9, Phases: []int{phase.Recall}}, false, 5},
		{watch.Fact{Power: feed.Gen, Drawn: 9, Capacity: 9, Phases: []int{phase.Recall}}, false, 5},
		// What doesn't fit isn't followed, either.
		{row(7), false, 6}, {row(phase.Stalled), false, 7}, {row(phase.Stalled), false, 7},
		// As many as ahead.
		{row(phase.Stalled, phase.Stalled), false, 8}, {row(phase.Stalled, phase.Recall), false, 8}, {row(), false, 9}, {row(), false, 9},
	} {
		if x := w.Tell(c.fact); x != c.well || w.Bad() != c.bad {
			t.Errorf("%d: %+v: Tell = %t, Bad = %d, want %t, %d", i, c.fact, x, w.Bad(), c.well, c.bad)
		}
		if w.Bad() != c.bad {
			t.Errorf("%d: asked once more, Bad = %d", i, w.Bad())
		}
	}
}

func TestTellOfTheFirstFact(t *testing.T) {
	for _, c := range []struct {
		fact watch.Fact
		lag  int
		well bool
	}{
		{watch.Fact{}, 0, true}, {row(), 8, true}, {row(phase.Serving), 0, true}, {row(phase.Recall, phase.Parked), 0, true}, {row(phase.Out), 0, true},
		{row(6), 0, false}, {row(-1), 0, false}, {row(phase.Recall, phase.Recall), 0, false}, {row(phase.Normal, phase.Parked), 0, false},
		{gen(5, 5), 0, true}, {gen(6, 5), 0, false}, {gen(1, 5), 1, false}, {gen(0, 5), 1, true}, {gen(-1, -1), 0, true},
	} {
		w := watch.New(c.lag)
		bad := 1
		if c.well {
			bad = 0
		}
		if x := w.Tell(c.fact); x != c.well || w.Bad() != bad {
			t.Errorf("New(%d), %+v: Tell = %t, Bad = %d", c.lag, c.fact, x, w.Bad())
		}
	}
}

func TestTellBehindAFactWithoutCars(t *testing.T) {
	// It is a fact, too: cars that weren't there don't follow it.
	w := watch.New(0)
	if !w.Tell(row()) || w.Tell(row(phase.Normal)) || w.Bad() != 1 {
		t.Errorf("Bad = %d", w.Bad())
	}
}

func TestTellOfLags(t *testing.T) {
	for _, lag := range lags {
		w := watch.New(lag)
		for range max(0, min(lag, 8)) {
			if !w.Tell(gen(0, 5)) {
				t.Errorf("%d: nothing is drawn, and Tell = false", lag)
			}
		}
		if !w.Tell(gen(5, 5)) || w.Tell(gen(6, 5)) {
			t.Errorf("%d: Bad = %d", lag, w.Bad())
		}
	}
}

func TestTellDoesNotKeepWhatIsHandedIn(t *testing.T) {
	w := watch.New(0)
	f := row(phase.Stalled, phase.Stalled)
	w.Tell(f)
	f.Phases[0], f.Phases[1] = phase.Normal, phase.Normal
	if !w.Tell(row(phase.Recall, phase.Stalled)) {
		t.Error("Stalled may be recalled")
	}
	// One list, told again and again, that is another one each time.
	w = watch.New(0)
	if f = row(phase.Normal); !w.Tell(f) {
		t.Error("Normal fits")
	}
	f.Phases[0] = phase.Recall
	if w.Tell(f) {
		t.Error("Normal may not be recalled")
	}
}

func TestWatchesStandAlone(t *testing.T) {
	one, other := watch.New(0), watch.New(0)
	one.Tell(row(9))
	if !other.Tell(row(phase.Normal)) || other.Bad() != 0 || one.Bad() != 1 {
		t.Errorf("Bad = %d and %d", one.Bad(), other.Bad())
	}
}

func TestNil(t *testing.T) {
	var w *watch.Watch
	for _, f := range []watch.Fact{{}, gen(1, 1), gen(2, 1), row(9)} {
		if w.Tell(f) || w.Bad() != 0 {
			t.Errorf("%+v: Tell = true, or Bad = %d", f, w.Bad())
		}
	}
}

func TestOneThatWasNotMade(t *testing.T) {
	// Some answer: it ends, and doesn't panic.
	w := &watch.Watch{}
	for _, f := range []watch.Fact{{}, gen(1, 1), gen(2, 1), row(9)} {
		w.Tell(f)
	}
	w.Bad()
}

// P25.3

// strayed is a number about those that there may be, or one that is far from them.
func strayed(c *chance, most int) int {
	if c.oneIn(15) {
		far := []int{least, -1 << 32, -1, most + 1, 1 << 20, 1<<20 + 1, 1 << 32, 1<<32 + 1, greatest}
		return far[c.below(len(far))]
	}
	return c.below(most + 1)
}

// phasesBehind are phases that follow some, most times.
func phasesBehind(c *chance, ahead []int) []int {
	if c.oneIn(25) {
		ahead = make([]int, c.below(4))
	}
	var l []int
	for _, p := range ahead {
		if c.oneIn(4) {
			p = strayed(c, phase.Out)
		}
		l = append(l, p)
	}
	if !phase.Follows(ahead, l) && !c.oneIn(5) {
		return ahead
	}
	return l
}

// factsOf are some facts.
func factsOf(c *chance) []watch.Fact {
	var facts []watch.Fact
	most := 3 + c.below(30)
	phases := slices.Repeat([]int{c.below(2)}, c.below(4))
	for range c.below(30) {
		phases = phasesBehind(c, phases)
		f := watch.Fact{Power: feed.Gen, Drawn: strayed(c, 3), Capacity: strayed(c, most), Phases: slices.Clone(phases), Rests: uint64(c.below(1<<20)) << c.below(45)}
		if c.oneIn(3) {
			f.Power = strayed(c, 3)
		}
		facts = append(facts, f)
	}
	return facts
}

func TestFactsAsTheWordsTellThem(t *testing.T) {
	c := &chance{seed: 25}
	var all, well, over, broke, both int
	for range 20000 {
		facts := factsOf(c)
		lag := c.below(12) - 2
		holds(t, lag, facts)
		for range 5 {
			car, from := strayed(c, 66)-1, strayed(c, len(facts))-1
			if x, want := watch.Frees(car, from, facts...), freesOf(car, from, facts); x != want {
				t.Fatalf("Frees(%d, %d, %+v) = %d, want %d", car, from, facts, x, want)
			}
		}
		o, b := watch.Over(lag, facts...) >= 0, watch.Breaks(facts...) >= 0
		all++
		switch {
		case o && b:
			both++
		case o:
			over++
		case b:
			broke++
		default:
			well++
		}
	}
	if min(well, over, broke, both)*50 < all {
		t.Errorf("of %d facts %d are well, in %d too much is drawn, %d break, %d do both", all, well, over, broke, both)
	}
}

// confOf is a group that may be.
func confOf(c *chance) conf.Conf {
	x := plain()
	x.Floors, x.Speed, x.Width, x.Dwell, x.Good, x.Dead = 2+c.below(4), 1+c.below(4), 1+c.below(3), 1+c.below(3), 1+c.below(4), 1+c.below(3)
	x.Lag, x.Home, x.Turn = c.below(9), c.below(x.Floors), 1+c.below(9)
	x.Banks[0].Cars = 1 + c.below(4)
	x.Order = nil
	for i := range x.Banks[0].Cars {
		x.Order = slices.Insert(x.Order, c.below(i+1), i)
	}
	if c.oneIn(2) {
		x.Full = conf.Saves(x) + c.below(9)
	}
	return x
}

// eventsOf are what happens in a tick.
func eventsOf(c *chance, x conf.Conf) []group.Event {
	if !c.oneIn(4) {
		return nil
	}
	kinds := []int{group.Hall, group.Hall, group.Call, group.Call, group.Call, group.Load, group.Load, group.Reset, group.Pick}
	kind := kinds[c.below(len(kinds))]
	if c.oneIn(12) {
		kind = []int{group.Fault, group.Restart}[c.below(2)]
	}
	return []group.Event{ev(kind, c.below(conf.Cars(x)), c.below(x.Floors))}
}

// played are facts of a world of a group, in which mains fail and come back.
func played(t *testing.T, c *chance, x conf.Conf, many int) []watch.Fact {
	w := begun(t, x)
	var facts []watch.Fact
	in := calm()
	for tick := range many {
		if c.oneIn(60) {
			in.Mains = !in.Mains
		}
		if c.oneIn(40) || tick == 0 {
			in.Gen, in.Capacity = !c.oneIn(4), c.below(2*conf.Most(x)+2)
		}
		in.Events, in.Blocked = eventsOf(c, x), uint64(c.below(16)&c.below(16)&c.below(16))
		w.Tick(in)
		facts = append(facts, watch.See(w, in, x.Width))
	}
	return facts
}

func TestWorldsAreWell(t *testing.T) {
	c := &chance{seed: 7}
	drawn := 0
	for round := range 150 {
		x := confOf(c)
		facts := played(t, c, x, 300)
		if over, breaks := watch.Over(x.Lag, facts...), watch.Breaks(facts...); over != -1 || breaks != -1 {
			t.Fatalf("round %d: Over = %d, Breaks = %d", round, over, breaks)
		}
		holds(t, x.Lag, facts[:60])
		w := watch.New(x.Lag)
		for i, f := range facts {
			if !w.Tell(f) {
				t.Fatalf("round %d: Tell = false of tick %d", round, i)
			}
			if f.Power == feed.Gen && f.Drawn > 0 {
				drawn++
			}
		}
		// One who counts what is drawn wrongly, or what is known, finds fault with them.
		for i := range facts {
			facts[i].Capacity = 0
		}
		if o, want := watch.Over(x.Lag, facts...), overOf(x.Lag, facts); o != want {
			t.Fatalf("round %d: Over = %d, want %d", round, o, want)
		}
	}
	if drawn < 1000 {
		t.Errorf("the generator bore something in %d ticks only", drawn)
	}
}

func TestWorldsAreFreedInTime(t *testing.T) {
	c := &chance{seed: 12}
	freed := 0
	for round := range 100 {
		x := confOf(c)
		x.Full = conf.Saves(x)
		facts := runUntilGone(t, c, x, 50)
		for car := range conf.Cars(x) {
			n := watch.Frees(car, 50, facts...)
			if n < 0 || n > conf.Limit(x, 0) {
				t.Fatalf("round %d: car %d: Frees = %d, Limit = %d", round, car, n, conf.Limit(x, 0))
			}
			if n > 0 {
				freed++
			}
		}
	}
	if freed < 20 {
		t.Errorf("%d cars only were to be freed", freed)
	}
}

// runUntilGone are facts of a world whose mains are gone for good behind some ticks.
func runUntilGone(t *testing.T, c *chance, x conf.Conf, behind int) []watch.Fact {
	w := begun(t, x)
	var facts []watch.Fact
	for tick := range behind + conf.Limit(x, 0) + 1 {
		in := group.In{}
		if tick < behind {
			in = calm(ev(group.Call, c.below(conf.Cars(x)), c.below(x.Floors)))
		}
		w.Tick(in)
		facts = append(facts, watch.See(w, in, x.Width))
	}
	return facts
}

// What the types are made of is part of the face: who tells facts makes them by place.
func TestFactsAreAsTheChapterSays(t *testing.T) {
	f := watch.Fact{1, 2, 3, []int{4}, 5}
	if !reflect.DeepEqual(f, watch.Fact{Power: 1, Drawn: 2, Capacity: 3, Phases: []int{4}, Rests: 5}) {
		t.Errorf("%+v", f)
	}
}

func FuzzFacts(f *testing.F) {
	f.Add([]byte{2, 5, 4, 1, 2, 5, 9, 1}, 0, 0, 0)
	f.Add([]byte{2, 0, 9, 1, 2, 9, 9, 2, 1, 200, 0, 3}, 1, 1, -9)
	f.Fuzz(func(t *testing.T, data []byte, lag, car, from int) {
		var facts []watch.Fact
		for ; len(data) >= 4 && len(facts) < 60; data = data[4:] {
			facts = append(facts, watch.Fact{
				Power: int(data[0] % 4), Drawn: int(int8(data[1])), Capacity: int(int8(data[2])),
				Phases: []int{int(data[3]%8) - 1, int(data[3] / 32)}, Rests: uint64(data[3]) << (data[0] % 64),
			})
		}
		holds(t, lag, facts)
		if x, want := watch.Frees(car, from, facts...), freesOf(car, from, facts); x != want {
			t.Fatalf("Frees(%d, %d, %+v) = %d, want %d", car, from, facts, x, want)
		}
	})
}
