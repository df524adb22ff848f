package feed_test

import (
	"math"
	"testing"

	"paternoster/feed"
)

const (
	least    = math.MinInt
	greatest = math.MaxInt
	maxPower = 1048576
	maxWait  = 200
	maxLag   = 8
)

// others are what may be handed in as a place of the switch, but is neither Mains nor Gen.
var others = []int{feed.None, least, least + 1, -1 << 32, -1000, -256, -2, -1, 3, 4, 7, 8, 255, 256, 257, 258, 1<<32 + 1, 1<<32 + 2, greatest - 1, greatest}

// wants are what may be asked for.
func wants() []int { return append([]int{feed.Mains, feed.Gen}, others...) }

// deads are how long a switch may be on its way.
var deads = []int{least, least + 1, -1 << 32, -200, -2, -1, 0, 1, 2, 3, 4, 100, 198, 199, 200, 201, 202, 255, 256, 257, 1000, 1<<32 + 5, greatest - 1, greatest}

// lefts are what a switch may have left, where all is told.
var lefts = []int{-1000000, -999999, -1000, -3, -2, -1, 0, 1, 2, 3, 4, 100, 199, 200, 201, 1000, 1000000, 1 << 32, 1<<32 + 1, greatest - 1, greatest}

// each goes through switches of which all is told, and what may be asked of each.
func each(do func(f feed.Feed, want int, still bool, dead int)) {
	for _, at := range wants() {
		for _, to := range wants() {
			for _, left := range lefts {
				for _, want := range wants() {
					for _, dead := range deads {
						do(feed.Feed{At: at, To: to, Left: left}, want, false, dead)
						do(feed.Feed{At: at, To: to, Left: left}, want, true, dead)
					}
				}
			}
		}
	}
}

// deadOf is for how many ticks a switch is on its way, as the promise's words tell it.
func deadOf(dead int) int {
	if dead < 1 {
		return 1
	}
	if dead > maxWait {
		return maxWait
	}
	return dead
}

// stepped is Step, as the promise's words tell it.
func stepped(f feed.Feed, want int, still bool, dead int) feed.Feed {
	if f.At == 1 || f.At == 2 {
		if still && (f.At == 1 && want == 2 || f.At == 2 && want == 1) {
			return feed.Feed{At: 0, To: want, Left: deadOf(dead)}
		}
		return f
	}
	f.Left = f.Left - 1
	if f.Left < 1 {
		f.At = 1
		if f.To == 2 {
			f.At = 2
		}
		f.To, f.Left = 0, 0
	}
	return f
}

// P10.1

func TestPlacesHaveTheirNumbers(t *testing.T) {
	if feed.None != 0 || feed.Mains != 1 || feed.Gen != 2 {
		t.Errorf("None %d, Mains %d, Gen %d", feed.None, feed.Mains, feed.Gen)
	}
}

func TestTheChaptersExample(t *testing.T) {
	f := feed.Feed{At: feed.Mains}
	for tick, at := range []int{feed.None, feed.None, feed.Gen} {
		f = f.Step(feed.Gen, true, 2)
		if f.At != at {
			t.Errorf("tick %d: %+v", tick, f)
		}
	}
	if f != (feed.Feed{At: feed.Gen}) {
		t.Errorf("at the end: %+v", f)
	}
}

func TestStepFromMainsOrGen(t *testing.T) {
	const m, g = feed.Mains, feed.Gen
	for _, c := range []struct {
		at, want int
		still    bool
		dead     int
		is       feed.Feed
	}{
		// As it was: it is there, there is no such place, or not all is still.
		{m, m, true, 2, feed.Feed{At: m}}, {m, m, false, 2, feed.Feed{At: m}},
		{g, g, true, 2, feed.Feed{At: g}}, {g, g, false, 2, feed.Feed{At: g}},
		{m, feed.None, true, 2, feed.Feed{At: m}}, {g, feed.None, true, 2, feed.Feed{At: g}},
		{m, 3, true, 2, feed.Feed{At: m}}, {g, 3, true, 2, feed.Feed{At: g}},
		{m, -1, true, 2, feed.Feed{At: m}}, {g, -1, true, 2, feed.Feed{At: g}},
		{m, g, false, 2, feed.Feed{At: m}}, {g, m, false, 2, feed.Feed{At: g}},
		{m, g, false, 0, feed.Feed{At: m}}, {g, m, false, 999, feed.Feed{At: g}},
		// On its way.
		{m, g, true, 2, feed.Feed{To: g, Left: 2}}, {g, m, true, 2, feed.Feed{To: m, Left: 2}},
		{m, g, true, 1, feed.Feed{To: g, Left: 1}}, {g, m, true, 1, feed.Feed{To: m, Left: 1}},
		{m, g, true, 199, feed.Feed{To: g, Left: 199}}, {m, g, true, 200, feed.Feed{To: g, Left: 200}},
		// For 1 tick at least, and MaxWait at most.
		{m, g, true, 0, feed.Feed{To: g, Left: 1}}, {g, m, true, 0, feed.Feed{To: m, Left: 1}},
		{m, g, true, -1, feed.Feed{To: g, Left: 1}}, {m, g, true, least, feed.Feed{To: g, Left: 1}},
		{m, g, true, 201, feed.Feed{To: g, Left: 200}}, {g, m, true, 201, feed.Feed{To: m, Left: 200}},
		{m, g, true, greatest, feed.Feed{To: g, Left: 200}}, {m, g, true, 1<<32 + 5, feed.Feed{To: g, Left: 200}},
	} {
		f := feed.Feed{At: c.at}
		if x := f.Step(c.want, c.still, c.dead); x != c.is {
			t.Errorf("%+v: Step(%d, %t, %d) = %+v, want %+v", f, c.want, c.still, c.dead, x, c.is)
		}
	}
}

func TestStepOfOneOnItsWay(t *testing.T) {
	const m, g = feed.Mains, feed.Gen
	for _, c := range []struct{ f, is feed.Feed }{
		{feed.Feed{To: g, Left: 3}, feed.Feed{To: g, Left: 2}}, {feed.Feed{To: g, Left: 2}, feed.Feed{To: g, Left: 1}},
		{feed.Feed{To: m, Left: 3}, feed.Feed{To: m, Left: 2}}, {feed.Feed{To: m, Left: 2}, feed.Feed{To: m, Left: 1}},
		{feed.Feed{To: g, Left: 1}, feed.Feed{At: g}}, {feed.Feed{To: m, Left: 1}, feed.Feed{At: m}},
		{feed.Feed{To: g, Left: 0}, feed.Feed{At: g}}, {feed.Feed{To: m, Left: 0}, feed.Feed{At: m}},
		{feed.Feed{To: g, Left: -1}, feed.Feed{At: g}}, {feed.Feed{To: g, Left: -1000000}, feed.Feed{At: g}}, {feed.Feed{To: m, Left: -1000000}, feed.Feed{At: m}},
		{feed.Feed{To: g, Left: greatest}, feed.Feed{To: g, Left: greatest - 1}},
		// To nowhere: to Mains.
		{feed.Feed{}, feed.Feed{At: m}}, {feed.Feed{Left: 1}, feed.Feed{At: m}}, {feed.Feed{To: 3, Left: 1}, feed.Feed{At: m}}, {feed.Feed{To: -1, Left: 1}, feed.Feed{At: m}},
		{feed.Feed{Left: 2}, feed.Feed{Left: 1}}, {feed.Feed{To: 3, Left: 2}, feed.Feed{To: 3, Left: 1}},
		// Anywhere else it is on its way as well.
		{feed.Feed{At: 3, To: g, Left: 2}, feed.Feed{At: 3, To: g, Left: 1}}, {feed.Feed{At: 3, To: g, Left: 1}, feed.Feed{At: g}},
		{feed.Feed{At: -1, To: m, Left: 2}, feed.Feed{At: -1, To: m, Left: 1}}, {feed.Feed{At: -1, To: 7, Left: 1}, feed.Feed{At: m}}, {feed.Feed{At: greatest}, feed.Feed{At: m}},
	} {
		// Whatever is wanted then, and for how long, and whether all is still.
		for _, want := range wants() {
			for _, dead := range deads {
				for _, still := range []bool{false, true} {
					if x := c.f.Step(want, still, dead); x != c.is {
						t.Errorf("%+v: Step(%d, %t, %d) = %+v, want %+v", c.f, want, still, dead, x, c.is)
					}
				}
			}
		}
	}
}

func TestStepAsTheWordsSay(t *testing.T) {
	each(func(f feed.Feed, want int, still bool, dead int) {
		if x, is := f.Step(want, still, dead), stepped(f, want, still, dead); x != is {
			t.Fatalf("%+v: Step(%d, %t, %d) = %+v, want %+v", f, want, still, dead, x, is)
		}
	})
}

func TestStepOfEachDead(t *testing.T) {
	for dead := -300; dead <= 600; dead++ {
		want := feed.Feed{To: feed.Gen, Left: deadOf(dead)}
		if x := (feed.Feed{At: feed.Mains}).Step(feed.Gen, true, dead); x != want {
			t.Errorf("Step(Gen, true, %d) = %+v, want %+v", dead, x, want)
		}
	}
}

func TestWhatStaysIsAsItWas(t *testing.T) {
	// With its To and its Left, though nobody asks for them there.
	for _, at := range []int{feed.Mains, feed.Gen} {
		f := feed.Feed{At: at, To: 7, Left: 9}
		for _, want := range append([]int{at}, others...) {
			if x := f.Step(want, true, 2); x != f {
				t.Errorf("%+v: Step(%d, true, 2) = %+v", f, want, x)
			}
		}
		if x := f.Step(feed.Mains+feed.Gen-at, false, 2); x != f {
			t.Errorf("%+v: not still: %+v", f, x)
		}
		// And where it goes both are others.
		if x, is := f.Step(feed.Mains+feed.Gen-at, true, 2), (feed.Feed{To: feed.Mains + feed.Gen - at, Left: 2}); x != is {
			t.Errorf("%+v: still: %+v", f, x)
		}
	}
}

func TestStepChangesNothingElse(t *testing.T) {
	f := feed.Feed{At: feed.Mains}
	way := feed.Feed{To: feed.Gen, Left: 2}
	for range 3 {
		if x := f.Step(feed.Gen, true, 2); x != way {
			t.Errorf("%+v: %+v", f, x)
		}
		if x := way.Step(feed.Mains, true, 5); x != (feed.Feed{To: feed.Gen, Left: 1}) {
			t.Errorf("%+v: %+v", way, x)
		}
		if f != (feed.Feed{At: feed.Mains}) || way != (feed.Feed{To: feed.Gen, Left: 2}) {
			t.Fatalf("the switches themselves are %+v and %+v", f, way)
		}
	}
}

func TestALeftOfWhichNothingIsTold(t *testing.T) {
	// Some answer.
	for _, left := range []int{least, least + 1, -1 << 32, -1000001} {
		for _, at := range wants() {
			feed.Feed{At: at, To: feed.Gen, Left: left}.Step(feed.Gen, true, 2)
		}
	}
}

func TestPower(t *testing.T) {
	for _, c := range []struct {
		at         int
		mains, gen bool
		want       int
	}{
		{feed.Mains, false, false, feed.None}, {feed.Mains, true, false, feed.Mains}, {feed.Mains, false, true, feed.None}, {feed.Mains, true, true, feed.Mains},
		{feed.Gen, false, false, feed.None}, {feed.Gen, true, false, feed.None}, {feed.Gen, false, true, feed.Gen}, {feed.Gen, true, true, feed.Gen},
	} {
		for _, to := range wants() {
			for _, left := range lefts {
				f := feed.Feed{At: c.at, To: to, Left: left}
				if n := f.Power(c.mains, c.gen); n != c.want {
					t.Errorf("%+v: Power(%t, %t) = %d, want %d", f, c.mains, c.gen, n, c.want)
				}
			}
		}
	}
}

func TestPowerComesFromNowhereBetween(t *testing.T) {
	for _, at := range others {
		for _, to := range wants() {
			f := feed.Feed{At: at, To: to, Left: 1}
			for _, mains := range []bool{false, true} {
				for _, gen := range []bool{false, true} {
					if n := f.Power(mains, gen); n != feed.None {
						t.Errorf("%+v: Power(%t, %t) = %d", f, mains, gen, n)
					}
				}
			}
		}
	}
}

// P10.2

// capacities are what may be told: some within, both ends, and what is beyond them.
var capacities = []int{5, 0, maxPower, 1, maxPower - 1, -1, maxPower + 1, 7, least, greatest, 256, -maxPower, 1 << 31, 65536, 1<<32 + 9, -1<<32 + 9, 2, 3, 1 << 30, 11, 12, 13}

// capacityOf is what a capacity counts as, as the promise's words tell it.
func capacityOf(capacity int) int {
	if capacity < 0 {
		return 0
	}
	if capacity > maxPower {
		return maxPower
	}
	return capacity
}

// lagOf is what a lag counts as, as the promise's words tell it.
func lagOf(lag int) int {
	if lag < 0 {
		return 0
	}
	if lag > maxLag {
		return maxLag
	}
	return lag
}

// knownOf is what is known at a place of what was told, as the promise's words tell it.
func knownOf(lag int, told []int, place int) int {
	if place < lagOf(lag) {
		return 0
	}
	return capacityOf(told[place-lagOf(lag)])
}

// lags are all lags, and such as count as others.
func lags() []int {
	l := []int{least, least + 1, -1 << 32, -256, 255, 256, 257, 1 << 32, 1<<32 + 1, greatest - 1, greatest}
	for lag := -9; lag <= 18; lag++ {
		l = append(l, lag)
	}
	return l
}

// follow tells capacities one by one, and tells of what is known otherwise than it must be.
func follow(t *testing.T, lag int, told []int) {
	t.Helper()
	k := feed.New(lag)
	for place, capacity := range told {
		x, n := k.Tell(capacity)
		if want := knownOf(lag, told, place); n != want {
			t.Fatalf("New(%d): Tell(%d) at place %d = %d, want %d", lag, capacity, place, n, want)
		}
		k = x
	}
}

func TestTell(t *testing.T) {
	told := []int{7, -3, 1 << 30, 5, 6}
	for _, c := range []struct {
		lag  int
		want []int
	}{
		{0, []int{7, 0, maxPower, 5, 6}},
		{1, []int{0, 7, 0, maxPower, 5}},
		{2, []int{0, 0, 7, 0, maxPower}},
		{4, []int{0, 0, 0, 0, 7}},
		{5, []int{0, 0, 0, 0, 0}},
		{-1, []int{7, 0, maxPower, 5, 6}},
		{8, []int{0, 0, 0, 0, 0}},
	} {
		k := feed.New(c.lag)
		for i, want := range c.want {
			x, n := k.Tell(told[i])
			if n != want {
				t.Errorf("New(%d): Tell(%d) at place %d = %d, want %d", c.lag, told[i], i, n, want)
			}
			k = x
		}
	}
}

func TestTheGreatestLag(t *testing.T) {
	for _, lag := range []int{8, 9, 10, 99, greatest} {
		k := feed.New(lag)
		for place := range 30 {
			x, n := k.Tell(place + 1)
			if want := max(0, place+1-8); n != want {
				t.Errorf("New(%d): at place %d %d, want %d", lag, place, n, want)
			}
			k = x
		}
	}
}

func TestTellAsTheWordsSay(t *testing.T) {
	for _, lag := range lags() {
		follow(t, lag, capacities)
		// Each capacity at each place, among others that are all apart.
		for _, capacity := range capacities {
			for place := range 12 {
				told := make([]int, 24)
				for i := range told {
					told[i] = 1000 + i
				}
				told[place] = capacity
				follow(t, lag, told)
			}
		}
	}
}

func TestCapacitiesAboutTheirEnds(t *testing.T) {
	for _, c := range []struct{ capacity, want int }{
		{-2, 0}, {-1, 0}, {0, 0}, {1, 1}, {2, 2}, {maxPower - 1, maxPower - 1}, {maxPower, maxPower}, {maxPower + 1, maxPower}, {maxPower + 2, maxPower},
		{least, 0}, {greatest, maxPower}, {1 << 32, maxPower}, {-1 << 32, 0},
	} {
		for lag := range maxLag + 1 {
			k, n := feed.New(lag).Tell(c.capacity)
			for range lag {
				if n != 0 {
					t.Errorf("lag %d: %d is known ahead of its time", lag, n)
				}
				k, n = k.Tell(1)
			}
			if n != c.want {
				t.Errorf("lag %d: Tell(%d) is known as %d, want %d", lag, c.capacity, n, c.want)
			}
		}
	}
}

func TestTellChangesNothingElse(t *testing.T) {
	for lag := range maxLag + 1 {
		// Two ways on from one that was told some: neither knows of the other.
		first := feed.New(lag)
		told := []int{}
		for n := range 11 {
			first, _ = first.Tell(n + 1)
			told = append(told, n+1)
		}
		ahead := first
		for _, by := range []int{100, 200, 100} {
			k := first
			way := append([]int(nil), told...)
			for n := range 20 {
				x, known := k.Tell(by + n)
				way = append(way, by+n)
				if want := knownOf(lag, way, len(way)-1); known != want {
					t.Errorf("lag %d, way %d: Tell(%d) = %d, want %d", lag, by, by+n, known, want)
				}
				k = x
			}
			if first != ahead {
				t.Fatalf("lag %d: what was told first is %+v", lag, first)
			}
		}
	}
}

func TestNoMoreIsKeptThanIsNeeded(t *testing.T) {
	// What was told longer ago than lag is forgotten.
	for lag := range maxLag + 1 {
		a, b := feed.New(lag), feed.New(lag)
		for n := range 20 {
			a, _ = a.Tell(n + 1)
		}
		for n := range lag {
			a, _ = a.Tell(50 + n)
			b, _ = b.Tell(50 + n)
		}
		if a != b {
			t.Errorf("lag %d: %+v, and %+v", lag, a, b)
		}
	}
}

// P10.3

// trip is a switch, and what is known of where it came from.
type trip struct {
	f          feed.Feed
	from, dead int // of one that is on its way: since it left
	none       int // ticks of None so far
}

// on is a trip a tick on; false: the switch went where it may not.
func (p trip) on(want int, still bool, dead int) (trip, bool) {
	x := p.f.Step(want, still, dead)
	ahead := p.f.At
	p.f = x
	if ahead != feed.None {
		if x.At == ahead {
			return p, true
		}
		p.from, p.dead, p.none = ahead, deadOf(dead), 1
		return p, still && x.At == feed.None && want == feed.Mains+feed.Gen-ahead
	}
	if x.At == feed.None {
		p.none++
		return p, p.none <= p.dead
	}
	return p, p.none == p.dead && x.At == feed.Mains+feed.Gen-p.from
}

// within tells whether there is power just where the switch stands.
func (p trip) within() bool {
	at := p.f.At
	return 0 <= at && at <= 2 && p.f.Power(true, true) == at && p.f.Power(false, false) == feed.None
}

func TestNeverWithoutNoneBetween(t *testing.T) {
	// Each row of five ticks, of these wants, deads, and still or not.
	var row func(p trip, ticks int)
	row = func(p trip, ticks int) {
		if ticks == 0 || t.Failed() {
			return
		}
		for _, want := range []int{feed.None, feed.Mains, feed.Gen, 3} {
			for _, dead := range []int{0, 2, 3} {
				for _, still := range []bool{false, true} {
					x, may := p.on(want, still, dead)
					if !may || !x.within() {
						t.Fatalf("%+v: Step(%d, %t, %d): %+v", p, want, still, dead, x)
					}
					row(x, ticks-1)
				}
			}
		}
	}
	row(trip{f: feed.Feed{At: feed.Mains}}, 5)
	row(trip{f: feed.Feed{At: feed.Gen}}, 5)
}

func TestAsManyTicksOfNoneAsDead(t *testing.T) {
	for _, from := range []int{feed.Mains, feed.Gen} {
		to := feed.Mains + feed.Gen - from
		for dead := -2; dead <= maxWait+3; dead++ {
			f := feed.Feed{At: from}.Step(to, true, dead)
			ticks := 0
			for f.At == feed.None && ticks <= 2*maxWait {
				ticks++
				// Neither what is wanted by then nor another dead makes it faster or slower.
				f = f.Step(from, ticks%2 == 0, ticks)
			}
			if f != (feed.Feed{At: to}) || ticks != deadOf(dead) {
				t.Errorf("from %d, dead %d: %+v after %d ticks of None", from, dead, f, ticks)
			}
		}
	}
}

func TestNeverWhereNotAllIsStill(t *testing.T) {
	for _, at := range []int{feed.Mains, feed.Gen} {
		f := feed.Feed{At: at}
		for tick := range 1000 {
			if f = f.Step(feed.Mains+feed.Gen-at, false, tick%5); f != (feed.Feed{At: at}) {
				t.Fatalf("at %d, tick %d: %+v", at, tick, f)
			}
		}
	}
}

func TestBackAndForth(t *testing.T) {
	// A long way of mixed ticks, always the same ones.
	p := trip{f: feed.Feed{At: feed.Mains}}
	arrived := 0
	x := uint64(88172645463325252)
	for range 200000 {
		x ^= x << 13
		x ^= x >> 7
		x ^= x << 17
		ahead := p.f.At
		next, may := p.on(int(x%5)-1, x>>8%3 == 0, int(x>>16%260)-20)
		if !may || !next.within() {
			t.Fatalf("%+v: %+v", p, next)
		}
		if p = next; ahead == feed.None && p.f.At != feed.None {
			arrived++
		}
	}
	if arrived < 100 {
		t.Errorf("it went %d times only", arrived)
	}
}

func FuzzStepAsTheWordsSay(f *testing.F) {
	f.Add(1, 0, 0, 2, true, 2)
	f.Add(0, 2, 1, 1, true, 2)
	f.Add(2, 7, 9, 1, false, 999)
	f.Add(greatest, least, -1000000, least, true, greatest)
	f.Fuzz(func(t *testing.T, at, to, left, want int, still bool, dead int) {
		s := feed.Feed{At: at, To: to, Left: left}
		x := s.Step(want, still, dead)
		if at != feed.Mains && at != feed.Gen && left < -1000000 {
			return
		}
		if is := stepped(s, want, still, dead); x != is {
			t.Errorf("%+v: Step(%d, %t, %d) = %+v, want %+v", s, want, still, dead, x, is)
		}
	})
}

func FuzzTellAsTheWordsSay(f *testing.F) {
	f.Add(2, 7, -3, 1<<30, 5, 6)
	f.Add(0, least, 0, maxPower, maxPower+1, greatest)
	f.Add(greatest, 1, 2, 3, 4, 5)
	f.Fuzz(func(t *testing.T, lag, a, b, c, d, e int) {
		follow(t, lag, []int{a, b, c, d, e, e, d, c, b, a, a, c, e})
	})
}
