package mend_test

import (
	"bytes"
	"math"
	"slices"
	"testing"

	"paternoster/api"
	"paternoster/journal"
	"paternoster/ledger"
	"paternoster/mend"
)

const (
	least    = math.MinInt
	greatest = math.MaxInt
	power    = 1048576
)

// some are numbers of all sizes, about the ends of cars and of power, and far beyond.
var some = []int{least, least + 1, -1 << 40, -1 << 32, -power, -64, -2, -1, 0, 1, 2, 3, 5, 6, 7, 62, 63, 64, 65, 127, 128, 255, 256, power - 1, power, power + 1, 1 << 32, 1<<32 + 1, 1 << 40, 1<<40 + 1, greatest - 1, greatest}

// row is permits, told as cars and peaks by turns.
func row(n ...int) []ledger.Permit {
	var l []ledger.Permit
	for i := 0; i < len(n); i += 2 {
		l = append(l, ledger.Permit{Car: n[i], Peak: n[i+1]})
	}
	return l
}

// books is a ledger without Credit.
func books(budget, margin int, n ...int) ledger.Ledger {
	return ledger.Ledger{Budget: budget, Margin: margin, L: row(n...)}
}

// move is cars that move, told as cars and peaks by turns.
func move(n ...int) []mend.Moving {
	var l []mend.Moving
	for _, p := range row(n...) {
		l = append(l, mend.Moving{Car: p.Car, Peak: p.Peak})
	}
	return l
}

// each is the cars from one on up to another, that isn't one of them, each with a peak.
func each(from, to, peak int) []mend.Moving {
	var l []mend.Moving
	for car := from; car < to; car++ {
		l = append(l, mend.Moving{Car: car, Peak: peak})
	}
	return l
}

// empty is a journal of which nothing is told.
func empty() journal.Journal { return journal.From(nil, nil) }

// written is a journal with a ledger written.
func written(l ledger.Ledger) journal.Journal { return empty().Write(l) }

// same tells whether two ledgers are the same; nil and empty lists are one.
func same(a, b ledger.Ledger) bool {
	return a.Budget == b.Budget && a.Margin == b.Margin && a.Credit == b.Credit && slices.Equal(a.L, b.L)
}

// within is a number of power, as the words bound it.
func within(n int) int {
	if n < 0 {
		return 0
	}
	if n > 1048576 {
		return 1048576
	}
	return n
}

// drawOf is what a car that moves may draw, as the words tell it.
func drawOf(j journal.Journal, m mend.Moving) int {
	draw := m.Peak
	if told, _, is := j.Load(); is {
		for _, p := range told.L {
			if p.Car == m.Car && p.Peak > draw {
				draw = p.Peak
			}
		}
	}
	return within(draw)
}

// namedOf tells whether a car is one of a list's.
func namedOf(l []mend.Moving, car int) bool {
	for _, m := range l {
		if m.Car == car {
			return true
		}
	}
	return false
}

// againOf is Again, as the promise's words tell it.
func againOf(j journal.Journal, l []mend.Moving, budget int) (ledger.Ledger, []int) {
	again := ledger.Ledger{Budget: within(budget)}
	if told, _, is := j.Load(); is {
		again.Margin = told.Margin
	}
	var stops []int
	for i, m := range l {
		if m.Car < 0 || m.Car > 63 || namedOf(l[:i], m.Car) {
			continue
		}
		sum := drawOf(j, m)
		for _, p := range again.L {
			sum += p.Peak
		}
		if sum <= again.Budget {
			again.L = append(again.L, ledger.Permit{Car: m.Car, Peak: drawOf(j, m)})
		} else {
			stops = append(stops, m.Car)
		}
	}
	return again, stops
}

// told fails unless Again tells just these.
func told(t *testing.T, j journal.Journal, l []mend.Moving, budget int, want ledger.Ledger, wantStops ...int) {
	t.Helper()
	again, stops := mend.Again(j, l, budget)
	if !same(again, want) || !slices.Equal(stops, wantStops) {
		t.Fatalf("Again of %v, %d = %+v, %v, want %+v, %v", l, budget, again, stops, want, wantStops)
	}
}

// hold fails unless Again tells what the model does, and what follows from the promise.
func hold(t *testing.T, j journal.Journal, l []mend.Moving, budget int) {
	t.Helper()
	want, wantStops := againOf(j, l, budget)
	told(t, j, l, budget, want, wantStops...)
	again, stops := mend.Again(j, l, budget)
	follows(t, l, again, stops)
}

// follows fails unless P17.2 holds of an answer, as far as Peaks may be, and cars are named once.
func follows(t *testing.T, l []mend.Moving, again ledger.Ledger, stops []int) {
	t.Helper()
	if !ledger.Check(again) || again.Sum() > again.Budget || again.Credit != 0 {
		t.Fatalf("Again of %v: %+v", l, again)
	}
	for car := -1; car < 66; car++ {
		first := slices.IndexFunc(l, func(m mend.Moving) bool { return m.Car == car })
		moves := first >= 0 && car >= 0 && car < 64
		permit, has := again.Has(car)
		stop := slices.Contains(stops, car)
		if has == stop && moves || !moves && (has || stop) {
			t.Fatalf("Again of %v: car %d: a permit: %t, to stop: %t", l, car, has, stop)
		}
		if has && permit.Peak < within(l[first].Peak) {
			t.Fatalf("Again of %v: car %d: %+v", l, car, permit)
		}
	}
}

// P17.1

func TestTwoCarsOfWhichOneMustStop(t *testing.T) {
	told(t, empty(), move(1, 6, 2, 5), 10, books(10, 0, 1, 6), 2)
	told(t, empty(), move(2, 5, 1, 6), 10, books(10, 0, 2, 5), 1)
	told(t, empty(), move(1, 6, 2, 5), 11, books(11, 0, 1, 6, 2, 5))
	told(t, empty(), move(1, 6, 2, 5), 5, books(5, 0, 2, 5), 1)
	told(t, empty(), move(1, 6, 2, 5), 4, books(4, 0), 1, 2)
}

func TestNobodyMoves(t *testing.T) {
	for _, l := range [][]mend.Moving{nil, {}} {
		told(t, empty(), l, 10, books(10, 0))
		told(t, journal.Journal{}, l, 10, books(10, 0))
		// Permits of those that don't move are gone.
		told(t, written(books(20, 3, 1, 9, 7, 5)), l, 10, books(10, 3))
	}
}

func TestTheBudgetIsThatWhichIsHandedIn(t *testing.T) {
	for _, c := range []struct{ budget, want int }{
		{least, 0}, {-power, 0}, {-1, 0}, {0, 0}, {1, 1}, {19, 19}, {20, 20}, {21, 21}, {power - 1, power - 1}, {power, power}, {power + 1, power}, {1<<32 + 5, power}, {greatest, power},
	} {
		told(t, empty(), nil, c.budget, books(c.want, 0))
		told(t, written(books(20, 3, 1, 9)), nil, c.budget, books(c.want, 3))
		told(t, empty(), move(5, 0), c.budget, books(c.want, 0, 5, 0))
	}
	// One below 0 bears what is nothing, one above bears no more than may be drawn.
	told(t, empty(), move(0, -5), -1, books(0, 0, 0, 0))
	told(t, empty(), move(0, 1), -1, books(0, 0), 0)
	told(t, empty(), move(0, power, 1, 1, 2, 0), greatest, books(power, 0, 0, power, 2, 0), 1)
	// What was the budget is no matter.
	told(t, written(books(5, 0)), move(1, 6), 10, books(10, 0, 1, 6))
	told(t, written(books(power, 0)), move(1, 6), 5, books(5, 0), 1)
}

func TestTheMarginIsThatOfTheJournal(t *testing.T) {
	for _, margin := range []int{0, 1, 3, 10, 11, 4096, power - 1, power} {
		j := written(books(20, margin, 1, 4))
		told(t, j, move(1, 3), 10, books(10, margin, 1, 4))
		told(t, j, nil, 0, books(0, margin))
		// It is kept free from nobody who moves.
		told(t, j, move(1, 3, 2, 5, 3, 1), 10, books(10, margin, 1, 4, 2, 5, 3, 1))
		told(t, j, move(1, 3, 2, 5, 3, 2), 10, books(10, margin, 1, 4, 2, 5), 3)
	}
	told(t, empty(), move(1, 3), 10, books(10, 0, 1, 3))
	// From what is told on it is kept free again.
	again, _ := mend.Again(written(books(20, 3)), move(1, 5), 10)
	if l, err := again.Grant(2, 3); err != api.ErrFull {
		t.Error(l, err)
	}
	if l, err := again.Grant(2, 2); err != api.OK {
		t.Error(l, err)
	}
}

func TestThereIsNoCredit(t *testing.T) {
	for _, credit := range []int{0, 1, 3, 9, power} {
		l := books(20, 3, 1, 4)
		l.Credit = credit
		told(t, written(l), move(1, 3, 2, 9), 12, books(12, 3, 1, 4), 2)
	}
}

func TestTheGreaterOneOfBothPeaks(t *testing.T) {
	j := written(books(40, 0, 1, 9, 7, 5, 3, 0))
	for _, c := range []struct{ car, peak, want int }{
		{1, 8, 9}, {1, 9, 9}, {1, 10, 10}, {1, 0, 9}, {1, -1, 9}, {1, least, 9}, {7, 4, 5}, {7, 5, 5}, {7, 6, 6}, {7, -9, 5},
		{3, -1, 0}, {3, 0, 0}, {3, 1, 1}, {2, -1, 0}, {2, least, 0}, {2, 0, 0}, {2, 3, 3}, {0, 1, 1}, {63, 4, 4},
	} {
		told(t, j, move(c.car, c.peak), 20, books(20, 0, c.car, c.want))
		told(t, j, move(c.car, c.peak), c.want, books(c.want, 0, c.car, c.want))
		if c.want > 0 {
			told(t, j, move(c.car, c.peak), c.want-1, books(c.want-1, 0), c.car)
		}
	}
	// A stop is for what it may draw, not for its Peak alone.
	told(t, j, move(1, 1, 7, 1, 2, 1), 13, books(13, 0, 1, 9, 2, 1), 7)
	told(t, j, move(7, 1, 1, 1, 2, 8), 13, books(13, 0, 7, 5, 2, 8), 1)
}

func TestWhatMayBeDrawnHasBounds(t *testing.T) {
	j := written(books(power, 0, 1, power))
	for _, c := range []struct{ car, peak, want int }{
		{0, power - 1, power - 1}, {0, power, power}, {0, power + 1, power}, {0, 1 << 32, power}, {0, 1<<32 + 7, power}, {0, greatest, power}, {0, -1, 0}, {0, least, 0}, {0, -1 << 32, 0},
		{1, power + 1, power}, {1, greatest, power}, {1, -1, power}, {1, least, power},
	} {
		told(t, j, move(c.car, c.peak), power, books(power, 0, c.car, c.want))
		told(t, j, move(c.car, c.peak), greatest, books(power, 0, c.car, c.want))
	}
	told(t, j, move(0, greatest, 2, greatest, 3, least, 1, 0), greatest, books(power, 0, 0, power, 3, 0), 2, 1)
	told(t, j, move(0, power+1), power-1, books(power-1, 0), 0)
}

func TestCarByCar(t *testing.T) {
	// In the order in which they are named, not in that of the journal, or of cars.
	j := written(books(40, 0, 1, 2, 2, 2, 3, 2))
	told(t, j, move(3, 1, 1, 1, 2, 1), 40, books(40, 0, 3, 2, 1, 2, 2, 2))
	told(t, j, move(3, 9, 2, 9, 1, 9), 0, books(0, 0), 3, 2, 1)
	told(t, j, move(63, 9, 0, 9, 5, 9, 4, 9), 8, books(8, 0), 63, 0, 5, 4)
	// Whoever comes behind one that must stop may fit.
	told(t, empty(), move(4, 6, 9, 5, 2, 4, 8, 1, 6, 0), 10, books(10, 0, 4, 6, 2, 4, 6, 0), 9, 8)
	told(t, empty(), move(4, 11, 9, 12, 2, 10, 8, 1, 6, 0), 10, books(10, 0, 2, 10, 6, 0), 4, 9, 8)
	told(t, empty(), move(0, 1, 1, 2, 2, 3, 3, 4, 4, 5), 9, books(9, 0, 0, 1, 1, 2, 2, 3), 3, 4)
}

func TestCarsThatThereArent(t *testing.T) {
	for _, car := range []int{least, least + 1, -1 << 32, -64, -2, -1, 64, 65, 127, 128, 256, 1 << 32, 1<<32 + 1, 1 << 40, greatest} {
		told(t, empty(), move(car, 1), 10, books(10, 0))
		// They aren't told where they are too much, either, and take nothing away.
		told(t, empty(), move(car, 11), 10, books(10, 0))
		told(t, empty(), move(car, 9, 1, 6, car, 3, 2, 4, car, 0), 10, books(10, 0, 1, 6, 2, 4))
		told(t, written(books(20, 3, 1, 9)), move(car, 11, 1, 1), 10, books(10, 3, 1, 9))
	}
	told(t, empty(), move(0, 1, 63, 2, 64, 3, -1, 4), 10, books(10, 0, 0, 1, 63, 2))
}

func TestCarsThatWereNamedAlready(t *testing.T) {
	// With a permit.
	told(t, empty(), move(1, 6, 1, 2), 10, books(10, 0, 1, 6))
	told(t, empty(), move(1, 2, 1, 6), 10, books(10, 0, 1, 2))
	told(t, empty(), move(1, 6, 1, 6, 1, 99), 10, books(10, 0, 1, 6))
	told(t, empty(), move(1, 6, 2, 3, 1, 0, 2, 0, 3, 1), 10, books(10, 0, 1, 6, 2, 3, 3, 1))
	told(t, empty(), move(0, 0, 0, 3), 10, books(10, 0, 0, 0))
	// To stop: once is enough, and it must, even if less would fit.
	told(t, empty(), move(1, 11, 1, 11), 10, books(10, 0), 1)
	told(t, empty(), move(1, 11, 1, 2), 10, books(10, 0), 1)
	told(t, empty(), move(1, 11, 2, 3, 1, 0, 2, 99), 10, books(10, 0, 2, 3), 1)
	told(t, empty(), move(0, 11, 0, 0), 10, books(10, 0), 0)
	told(t, written(books(20, 3, 1, 9)), move(1, 1, 1, 1, 2, 4, 2, 4), 8, books(8, 3, 2, 4), 1)
}

func TestAllCars(t *testing.T) {
	told(t, empty(), each(0, 64, 16384), power, ledger.Ledger{Budget: power, L: permits(0, 64, 16384)})
	told(t, empty(), each(0, 64, 16384), power-1, ledger.Ledger{Budget: power - 1, L: permits(0, 63, 16384)}, 63)
	told(t, empty(), each(-9, 99, 1), 64, ledger.Ledger{Budget: 64, L: permits(0, 64, 1)})
	told(t, empty(), append(each(0, 64, 1), each(0, 64, 1)...), 62, ledger.Ledger{Budget: 62, L: permits(0, 62, 1)}, 62, 63)
	j := written(ledger.Ledger{Budget: power, Margin: 7, L: permits(0, 64, 16384)})
	told(t, j, each(0, 64, 1), power, ledger.Ledger{Budget: power, Margin: 7, L: permits(0, 64, 16384)})
	told(t, j, each(0, 64, 16385), power, ledger.Ledger{Budget: power, Margin: 7, L: permits(0, 63, 16385)}, 63)
	told(t, j, each(0, 64, 1), 2*16384, ledger.Ledger{Budget: 2 * 16384, Margin: 7, L: permits(0, 2, 16384)}, cars(2, 64)...)
	// As many as one likes.
	told(t, empty(), slices.Repeat(each(-50, 150, 1), 500), 40, ledger.Ledger{Budget: 40, L: permits(0, 40, 1)}, cars(40, 64)...)
}

// permits is those of the cars from one on up to another, that isn't one of them.
func permits(from, to, peak int) []ledger.Permit {
	var l []ledger.Permit
	for car := from; car < to; car++ {
		l = append(l, ledger.Permit{Car: car, Peak: peak})
	}
	return l
}

// cars is those from one on up to another, that isn't one of them.
func cars(from, to int) []int {
	var l []int
	for car := from; car < to; car++ {
		l = append(l, car)
	}
	return l
}

func TestWhatTheJournalTells(t *testing.T) {
	a, b := books(20, 3, 1, 9), books(30, 4, 1, 2, 2, 8)
	l := move(1, 1, 2, 1)
	// The ledger that was written last.
	told(t, written(a).Write(b), l, 20, books(20, 4, 1, 2, 2, 8))
	told(t, written(b).Write(a), l, 20, books(20, 3, 1, 9, 2, 1))
	told(t, written(b).Write(a).Write(books(5, 0)), l, 20, books(20, 0, 1, 1, 2, 1))
	// The one ahead of a write that came through in part.
	torn := written(a).Write(b).Tear(5)
	told(t, torn, l, 20, books(20, 3, 1, 9, 2, 1))
	told(t, written(a).Write(b).Tear(999), l, 20, books(20, 4, 1, 2, 2, 8))
	s := torn.Slots()
	told(t, journal.From(s[0], s[1]), l, 20, books(20, 3, 1, 9, 2, 1))
	// None: their Peaks alone.
	for _, j := range []journal.Journal{
		{}, empty(), written(a).Tear(5), journal.From([]byte("none"), []byte("neither")), journal.From(journal.Put(a, 1), journal.Put(b, 2)), journal.From(journal.Put(a, 0), nil), written(books(5, 3, 1, 6)),
	} {
		told(t, j, l, 20, books(20, 0, 1, 1, 2, 1))
	}
}

func TestAllSmallOnes(t *testing.T) {
	journals := []journal.Journal{empty(), written(books(3, 2, 0, 1)), written(books(4, 0, 1, 3, 0, 1)), written(books(2, 9, 2, 2))}
	sizes := []int{-1, 0, 1, 2, 3}
	var all []mend.Moving
	for _, car := range []int{-1, 0, 1, 64} {
		for _, peak := range sizes {
			all = append(all, mend.Moving{Car: car, Peak: peak})
		}
	}
	for _, j := range journals {
		for budget := -1; budget < 6; budget++ {
			for _, a := range all {
				hold(t, j, []mend.Moving{a}, budget)
				for _, b := range all {
					for _, c := range all {
						l := []mend.Moving{a, b, c}
						want, wantStops := againOf(j, l, budget)
						told(t, j, l, budget, want, wantStops...)
					}
				}
			}
		}
	}
}

func TestNumbersOfAllSizes(t *testing.T) {
	journals := []journal.Journal{empty(), written(books(power, power, 0, power)), written(books(power, 7, 63, power-1, 1, 1)), written(books(9, 5, 5, 6))}
	for _, j := range journals {
		for _, budget := range some {
			for _, a := range some {
				for _, b := range some {
					hold(t, j, move(a, b), budget)
					hold(t, j, move(5, a, 6, b, 7, a), budget)
				}
			}
		}
	}
}

// mixed goes through numbers, always the same ones.
func mixed(times int, f func(n uint64)) {
	x := uint64(88172645463325252)
	for range times {
		x ^= x << 13
		x ^= x >> 7
		x ^= x << 17
		f(x)
	}
}

func TestManyMixedOnes(t *testing.T) {
	j := empty()
	granted, stopped := 0, 0
	mixed(20000, func(n uint64) {
		next := books(int(n>>8%4096)+100, int(n>>20%300))
		for car := range int(n >> 32 % 6) {
			next.L = append(next.L, ledger.Permit{Car: (car*13 + int(n>>40%64)) % 64, Peak: int(n >> 48 % 20)})
		}
		j = j.Write(next)
		if n%5 == 0 {
			j = j.Tear(int(n >> 52 % 70))
		}
		var l []mend.Moving
		for i := range int(n >> 24 % 9) {
			k := n >> (3 * i)
			l = append(l, mend.Moving{Car: int(k%67) - 1, Peak: int(k>>5%40) - 3})
		}
		hold(t, j, l, int(n>>44%90)-5)
		again, stops := mend.Again(j, l, int(n>>44%90)-5)
		granted, stopped = granted+len(again.L), stopped+len(stops)
	})
	if granted < 10000 || stopped < 10000 {
		t.Errorf("%d permits, %d stops", granted, stopped)
	}
}

func TestNothingIsChangedAndKept(t *testing.T) {
	j := written(books(20, 3, 1, 9, 2, 4))
	slots := j.Slots()
	held := make([]mend.Moving, 3, 5)
	copy(held, move(1, 6, 2, 9, 3, 2))
	l, stops := mend.Again(j, held, 12)
	if !slices.Equal(held[:5], move(1, 6, 2, 9, 3, 2, 0, 0, 0, 0)) {
		t.Error(held[:5])
	}
	for i := range held {
		held[i] = mend.Moving{Car: 50, Peak: 50}
	}
	if !same(l, books(12, 3, 1, 9, 3, 2)) || !slices.Equal(stops, []int{2}) {
		t.Error(l, stops)
	}
	// One answer is told apart from the next one, and from the journal.
	other, others := mend.Again(j, move(1, 6, 2, 9, 3, 2), 12)
	for i := range l.L[:cap(l.L)] {
		l.L[:cap(l.L)][i] = ledger.Permit{Car: 60, Peak: 60}
	}
	stops[0] = 60
	if !same(other, books(12, 3, 1, 9, 3, 2)) || !slices.Equal(others, []int{2}) {
		t.Error(other, others)
	}
	if s := j.Slots(); !bytes.Equal(s[0], slots[0]) || !bytes.Equal(s[1], slots[1]) {
		t.Error(s)
	}
	told(t, j, move(1, 6, 2, 9, 3, 2), 12, books(12, 3, 1, 9, 3, 2), 2)
}

// P17.2

func TestWhoNeedntStopMayDrawWhatItDraws(t *testing.T) {
	j := written(books(60, 5, 1, 9, 2, 20, 9, 20))
	l := move(2, 12, 1, 14, 5, 6, 6, 0, 7, 30)
	for budget := range 100 {
		again, stops := mend.Again(j, l, budget)
		sum, permits := 0, map[int]int{}
		for _, p := range again.L {
			sum += p.Peak
			permits[p.Car] = p.Peak
		}
		if sum > budget || len(permits) != len(again.L) || len(permits)+len(stops) != len(l) {
			t.Errorf("%d: %+v, %v", budget, again, stops)
		}
		for _, m := range l {
			peak, has := permits[m.Car]
			if has == slices.Contains(stops, m.Car) || has && peak < m.Peak {
				t.Errorf("%d: %+v, %v: %+v", budget, again, stops, m)
			}
		}
		if _, has := permits[9]; has {
			t.Errorf("%d: %+v", budget, again)
		}
	}
}

func TestWhatIsToldIsKeptAsItIs(t *testing.T) {
	// Behind a restart, and another one, it is as far as it was.
	j := written(books(60, 5, 1, 9, 2, 20, 9, 20))
	l := move(2, 12, 1, 14, 5, 6)
	again, _ := mend.Again(j, l, 40)
	told(t, j.Write(again), l, 40, again)
	told(t, j.Write(again), move(2, 1, 1, 1, 5, 1), 40, again)
	told(t, j.Write(again), move(1, 1), 40, books(40, 5, 1, 14))
}

func FuzzAgain(f *testing.F) {
	f.Add([]byte{1, 6, 2, 5}, 10, 20, 3, 1, 9)
	f.Add([]byte{1, 6, 64, 5, 1, 2, 255, 255}, -1, power, power, 63, power)
	f.Fuzz(func(t *testing.T, b []byte, budget, was, margin, car, peak int) {
		j := written(books(was, margin, car, peak))
		var l []mend.Moving
		for i := 1; i < len(b); i += 2 {
			l = append(l, mend.Moving{Car: int(int8(b[i-1])), Peak: int(int8(b[i]))})
		}
		hold(t, j, l, budget)
		hold(t, j, append(l, mend.Moving{Car: car, Peak: peak}), budget)
	})
}
