package ledger_test

import (
	"math"
	"slices"
	"testing"

	"paternoster/api"
	"paternoster/ledger"
)

const (
	least    = math.MinInt
	greatest = math.MaxInt
	power    = 1048576
)

// some are numbers of all sizes, about the ends of cars and of power, and far beyond.
var some = []int{least, least + 1, -1 << 40, -1 << 32, -power, -64, -2, -1, 0, 1, 2, 3, 5, 6, 7, 62, 63, 64, 65, 127, 128, 255, 256, power - 1, power, power + 1, 1 << 32, 1<<32 + 1, 1 << 40, 1<<40 + 1, greatest - 1, greatest}

// row is permits, told as cars and peaks by turns.
func row(n ...int) []ledger.Permit {
	var l []ledger.Permit
	for i := 0; i < len(n); i += 2 {
		l = append(l, ledger.Permit{Car: n[i], Peak: n[i+1]})
	}
	return l
}

// whole is a permit of each of the 64 cars, of one peak.
func whole(peak int) []ledger.Permit {
	l := make([]ledger.Permit, 64)
	for car := range l {
		l[car] = ledger.Permit{Car: car, Peak: peak}
	}
	return l
}

// same tells whether two ledgers are the same; nil and empty lists are one.
func same(a, b ledger.Ledger) bool {
	return a.Budget == b.Budget && a.Margin == b.Margin && a.Credit == b.Credit && slices.Equal(a.L, b.L)
}

// sumOf is what all permits come to, as the promise's words tell it (of permits that may be).
func sumOf(l []ledger.Permit) int {
	sum := 0
	for _, p := range l {
		sum += p.Peak
	}
	return sum
}

// checkOf is Check, as the promise's words tell it.
func checkOf(l ledger.Ledger) bool {
	ok := func(n int) bool { return 0 <= n && n <= 1048576 }
	count := map[int]int{}
	for _, p := range l.L {
		if p.Car < 0 || p.Car > 63 || !ok(p.Peak) {
			return false
		}
		count[p.Car]++
		if count[p.Car] == 2 {
			return false
		}
	}
	return ok(l.Budget) && ok(l.Margin) && ok(l.Credit) && sumOf(l.L) <= l.Budget
}

// hasOf is Has, as the promise's words tell it.
func hasOf(l ledger.Ledger, car int) (ledger.Permit, bool) {
	for _, p := range l.L {
		if p.Car == car {
			return p, true
		}
	}
	return ledger.Permit{}, false
}

// grantOf is Grant, as the promise's words tell it.
func grantOf(l ledger.Ledger, car, peak int) (ledger.Ledger, api.Errno) {
	if car < 0 || car > 63 || peak < 0 || peak > 1048576 {
		return l, api.ErrArg
	}
	if _, has := hasOf(l, car); has {
		return l, api.ErrTwice
	}
	need := sumOf(l.L) + peak
	if len(l.L) != 0 && l.Margin > l.Credit {
		need += l.Margin - l.Credit
	}
	if need > l.Budget {
		return l, api.ErrFull
	}
	on := ledger.Ledger{Budget: l.Budget, Margin: l.Margin, Credit: l.Credit}
	on.L = append(on.L, l.L...)
	on.L = append(on.L, ledger.Permit{Car: car, Peak: peak})
	return on, api.OK
}

// giveOf is Give, as the promise's words tell it.
func giveOf(l ledger.Ledger, car int) (ledger.Ledger, bool) {
	on := ledger.Ledger{Budget: l.Budget, Margin: l.Margin, Credit: l.Credit}
	for _, p := range l.L {
		if p.Car != car {
			on.L = append(on.L, p)
		}
	}
	return on, len(on.L) != len(l.L)
}

// fitOf is Fit, as the promise's words tell it.
func fitOf(l ledger.Ledger, budget int) (ledger.Ledger, []int) {
	on := ledger.Ledger{Budget: budget, Margin: l.Margin, Credit: l.Credit}
	if budget < 0 {
		on.Budget = 0
	}
	if budget > 1048576 {
		on.Budget = 1048576
	}
	on.L = append(on.L, l.L...)
	var taken []int
	for sumOf(on.L) > on.Budget {
		last := len(on.L) - 1
		taken = append(taken, on.L[last].Car)
		on.L = on.L[:last]
	}
	return on, taken
}

// small goes through all ledgers of small numbers, with up to three permits, that may be.
func small(f func(l ledger.Ledger)) {
	rows := [][]ledger.Permit{nil, {}}
	for a := range 4 {
		rows = append(rows, row(0, a), row(2, a), row(63, a))
		for b := range 4 {
			rows = append(rows, row(0, a, 1, b), row(2, a, 0, b))
			for c := range 4 {
				rows = append(rows, row(2, a, 63, b, 0, c))
			}
		}
	}
	for budget := range 8 {
		for margin := range 4 {
			for credit := range 5 {
				for _, r := range rows {
					if l := (ledger.Ledger{Budget: budget, Margin: margin, Credit: credit, L: r}); checkOf(l) {
						f(l)
					}
				}
			}
		}
	}
}

// great are ledgers that may be, about the ends of what may be.
func great() []ledger.Ledger {
	var l []ledger.Ledger
	for _, margin := range []int{0, 1, 2, 255, 256, 257, 65536, power - 2, power - 1, power} {
		for _, credit := range []int{0, 1, 256, power - 1, power} {
			for _, budget := range []int{0, 1, 255, 256, 257, 65535, 65536, 65537, power - 1, power} {
				for _, r := range [][]ledger.Permit{nil, row(0, 0), row(63, 0), row(7, power), row(7, power, 8, 0), row(0, power-1, 63, 1), row(1, 65535), row(1, 255, 2, 1), row(5, 0, 4, 256, 6, 0), whole(0), whole(4), whole(16384), whole(16384)[:63], whole(16383)} {
					if one := (ledger.Ledger{Budget: budget, Margin: margin, Credit: credit, L: r}); checkOf(one) {
						l = append(l, one)
					}
				}
			}
		}
	}
	return l
}

// P15.1

func TestCheck(t *testing.T) {
	for _, c := range []struct {
		l    ledger.Ledger
		want bool
	}{
		{ledger.Ledger{}, true}, {ledger.Ledger{L: []ledger.Permit{}}, true},
		{ledger.Ledger{Budget: 10, Margin: 3, Credit: 1, L: row(1, 6, 2, 2)}, true},
		// Budget, Margin and Credit are 0 to MaxPower, and none of them hangs on the others.
		{ledger.Ledger{Budget: power}, true}, {ledger.Ledger{Margin: power}, true}, {ledger.Ledger{Credit: power}, true}, {ledger.Ledger{Budget: power, Margin: power, Credit: power}, true},
		{ledger.Ledger{Budget: power + 1}, false}, {ledger.Ledger{Margin: power + 1}, false}, {ledger.Ledger{Credit: power + 1}, false},
		{ledger.Ledger{Budget: -1}, false}, {ledger.Ledger{Budget: 9, Margin: -1}, false}, {ledger.Ledger{Budget: 9, Credit: -1}, false},
		{ledger.Ledger{Budget: 6, Margin: 9, L: row(1, 6)}, true}, {ledger.Ledger{Budget: 6, Credit: 9, L: row(1, 6)}, true},
		// Cars are 0 to 63.
		{ledger.Ledger{Budget: 9, L: row(0, 1)}, true}, {ledger.Ledger{Budget: 9, L: row(63, 1)}, true}, {ledger.Ledger{Budget: 9, L: row(-1, 1)}, false}, {ledger.Ledger{Budget: 9, L: row(64, 1)}, false},
		{ledger.Ledger{Budget: 9, L: row(3, 1, 64, 1)}, false}, {ledger.Ledger{Budget: 9, L: row(3, 1, -1, 1, 2, 1)}, false},
		// No two permits are of one car.
		{ledger.Ledger{Budget: 9, L: row(3, 1, 3, 1)}, false}, {ledger.Ledger{Budget: 9, L: row(3, 1, 4, 1, 3, 2)}, false}, {ledger.Ledger{Budget: 9, L: row(0, 0, 0, 0)}, false}, {ledger.Ledger{Budget: 9, L: row(5, 1, 3, 1, 4, 1, 3, 0)}, false},
		{ledger.Ledger{Budget: 9, L: row(3, 1, 4, 1)}, true}, {ledger.Ledger{Budget: 9, L: row(4, 1, 3, 1)}, true},
		// Peaks are 0 to MaxPower.
		{ledger.Ledger{L: row(1, 0)}, true}, {ledger.Ledger{Budget: power, L: row(1, power)}, true}, {ledger.Ledger{Budget: 9, L: row(1, -1)}, false}, {ledger.Ledger{Budget: 9, L: row(1, 9, 2, -1)}, false},
		{ledger.Ledger{Budget: power, L: row(1, power+1)}, false}, {ledger.Ledger{Budget: power, L: row(1, power+1, 2, -1)}, false}, {ledger.Ledger{Budget: power, L: row(1, greatest, 2, greatest)}, false},
		// Sum is Budget at most.
		{ledger.Ledger{Budget: 8, L: row(1, 6, 2, 2)}, true}, {ledger.Ledger{Budget: 7, L: row(1, 6, 2, 2)}, false}, {ledger.Ledger{Budget: 0, L: row(1, 1)}, false}, {ledger.Ledger{Budget: power, L: row(1, power, 2, 1)}, false},
		{ledger.Ledger{Budget: 5, L: row(1, 6)}, false}, {ledger.Ledger{Budget: power, L: row(1, power-1, 2, 1)}, true},
		// All cars, and one more than there may be.
		{ledger.Ledger{Budget: 128, L: whole(2)}, true}, {ledger.Ledger{Budget: 127, L: whole(2)}, false}, {ledger.Ledger{Budget: power, L: whole(16384)}, true}, {ledger.Ledger{Budget: power - 1, L: whole(16384)}, false},
		{ledger.Ledger{Budget: power, L: whole(power)}, false}, {ledger.Ledger{Budget: power, L: append(whole(2), ledger.Permit{Car: 64})}, false}, {ledger.Ledger{Budget: power, L: append(whole(2), ledger.Permit{Car: 63})}, false},
		{ledger.Ledger{Budget: power, L: append(whole(2), whole(0)...)}, false},
	} {
		if is := ledger.Check(c.l); is != c.want {
			t.Errorf("Check(%+v) = %t", c.l, is)
		}
	}
}

func TestCheckOfAllEnds(t *testing.T) {
	for _, a := range some {
		for _, b := range some {
			for _, l := range []ledger.Ledger{
				{Budget: a, Margin: b}, {Budget: a, Credit: b}, {Margin: a, Credit: b}, {Budget: a, Margin: b, Credit: 1, L: row(1, 1)},
				{Budget: power, L: row(a, 1, b, 1)}, {Budget: power, L: row(a, b)}, {Budget: power, L: row(9, 1, a, b)}, {Budget: a, L: row(0, b)}, {Budget: power, L: row(3, a, 4, b)},
				{Budget: a, L: row(1, 2, 2, b, 3, 1)}, {Budget: a, L: row(1, 0, 2, 3, b, 2)},
			} {
				if is, want := ledger.Check(l), checkOf(l); is != want {
					t.Fatalf("Check(%+v) = %t", l, is)
				}
			}
		}
	}
}

func TestCheckOfTwoPermitsOfOneCarAnywhere(t *testing.T) {
	for at := range 64 {
		for car := range 64 {
			l := ledger.Ledger{Budget: 64, L: whole(1)}
			l.L[at].Car = car
			if is := ledger.Check(l); is != (at == car) {
				t.Fatalf("car %d at %d: %t", car, at, is)
			}
		}
	}
}

func TestCheckOfMorePermitsThanThereMayBe(t *testing.T) {
	many := make([]ledger.Permit, 1<<20)
	for i := range many {
		many[i].Car = i
	}
	if ledger.Check(ledger.Ledger{Budget: 9, L: many}) || ledger.Check(ledger.Ledger{Budget: 9, L: many[:65]}) || !ledger.Check(ledger.Ledger{Budget: 9, L: many[:64]}) {
		t.Error("check")
	}
}

func TestSum(t *testing.T) {
	for _, c := range []struct {
		l    ledger.Ledger
		want int
	}{
		{ledger.Ledger{}, 0}, {ledger.Ledger{Budget: 9, Margin: 5, Credit: 3}, 0}, {ledger.Ledger{Budget: 9, L: []ledger.Permit{}}, 0},
		{ledger.Ledger{Budget: 9, Margin: 5, Credit: 3, L: row(7, 6)}, 6}, {ledger.Ledger{Budget: 9, L: row(7, 6, 2, 3)}, 9}, {ledger.Ledger{Budget: 9, L: row(7, 0, 2, 0)}, 0}, {ledger.Ledger{Budget: 9, L: row(1, 1, 2, 2, 3, 3)}, 6},
		{ledger.Ledger{Budget: power, L: row(7, power)}, power}, {ledger.Ledger{Budget: power, L: whole(16384)}, power}, {ledger.Ledger{Budget: power, L: whole(3)}, 192},
	} {
		if sum := c.l.Sum(); sum != c.want {
			t.Errorf("%+v: Sum() = %d, want %d", c.l, sum, c.want)
		}
	}
	small(func(l ledger.Ledger) {
		if sum := l.Sum(); sum != sumOf(l.L) || !ledger.Check(l) {
			t.Fatalf("%+v: Sum() = %d; Check %t", l, sum, ledger.Check(l))
		}
	})
}

func TestHas(t *testing.T) {
	l := ledger.Ledger{Budget: 20, L: row(7, 6, 0, 3, 63, 0)}
	for _, c := range []struct {
		car  int
		want ledger.Permit
		has  bool
	}{
		{7, ledger.Permit{Car: 7, Peak: 6}, true}, {0, ledger.Permit{Car: 0, Peak: 3}, true}, {63, ledger.Permit{Car: 63, Peak: 0}, true},
		{1, ledger.Permit{}, false}, {6, ledger.Permit{}, false}, {8, ledger.Permit{}, false}, {-1, ledger.Permit{}, false}, {64, ledger.Permit{}, false}, {greatest, ledger.Permit{}, false}, {least, ledger.Permit{}, false},
	} {
		if p, has := l.Has(c.car); p != c.want || has != c.has {
			t.Errorf("Has(%d) = %+v, %t", c.car, p, has)
		}
	}
	for _, l := range great() {
		for car := -2; car <= 66; car++ {
			p, has := l.Has(car)
			if want, wantHas := hasOf(l, car); p != want || has != wantHas {
				t.Fatalf("%+v.Has(%d) = %+v, %t", l, car, p, has)
			}
		}
		for _, car := range some {
			p, has := l.Has(car)
			if want, wantHas := hasOf(l, car); p != want || has != wantHas {
				t.Fatalf("%+v.Has(%d) = %+v, %t", l, car, p, has)
			}
		}
	}
}

// P15.2

func TestGrant(t *testing.T) {
	six := row(1, 6)
	for _, c := range []struct {
		l         ledger.Ledger
		car, peak int
		want      api.Errno
	}{
		{ledger.Ledger{Budget: 10}, 1, 6, api.OK}, {ledger.Ledger{Budget: 10, L: six}, 2, 5, api.ErrFull}, {ledger.Ledger{Budget: 10, L: six}, 2, 4, api.OK}, {ledger.Ledger{Budget: 10, L: six}, 2, 0, api.OK},
		// Nothing is kept free as long as there is no permit.
		{ledger.Ledger{Budget: 10, Margin: 3}, 1, 10, api.OK}, {ledger.Ledger{Budget: 10, Margin: power}, 1, 10, api.OK}, {ledger.Ledger{Budget: 10, Margin: 3}, 1, 11, api.ErrFull}, {ledger.Ledger{Margin: 3}, 1, 0, api.OK}, {ledger.Ledger{Margin: 3}, 1, 1, api.ErrFull},
		{ledger.Ledger{Budget: 10, L: []ledger.Permit{}, Margin: 3}, 1, 10, api.OK},
		// Margin less Credit is, as soon as there is one, even one of nothing.
		{ledger.Ledger{Budget: 10, Margin: 3, L: six}, 2, 1, api.OK}, {ledger.Ledger{Budget: 10, Margin: 3, L: six}, 2, 2, api.ErrFull}, {ledger.Ledger{Budget: 10, Margin: 3, L: row(1, 0)}, 2, 7, api.OK}, {ledger.Ledger{Budget: 10, Margin: 3, L: row(1, 0)}, 2, 8, api.ErrFull},
		{ledger.Ledger{Budget: 10, Margin: 3, Credit: 1, L: six}, 2, 2, api.OK}, {ledger.Ledger{Budget: 10, Margin: 3, Credit: 1, L: six}, 2, 3, api.ErrFull}, {ledger.Ledger{Budget: 10, Margin: 5, L: six}, 2, 0, api.ErrFull}, {ledger.Ledger{Budget: 10, Margin: 4, L: six}, 2, 0, api.OK},
		// What cars give back lets less be kept free, and no more be granted than the budget bears.
		{ledger.Ledger{Budget: 10, Margin: 3, Credit: 3, L: six}, 2, 4, api.OK}, {ledger.Ledger{Budget: 10, Margin: 3, Credit: 4, L: six}, 2, 4, api.OK}, {ledger.Ledger{Budget: 10, Margin: 3, Credit: 4, L: six}, 2, 5, api.ErrFull}, {ledger.Ledger{Budget: 10, Margin: 3, Credit: power, L: six}, 2, 5, api.ErrFull},
		{ledger.Ledger{Budget: 10, Credit: 5}, 2, 11, api.ErrFull}, {ledger.Ledger{Budget: 10, Credit: 5, L: six}, 2, 5, api.ErrFull},
		// Cars and peaks that may not be, ahead of all else.
		{ledger.Ledger{Budget: 10}, -1, 6, api.ErrArg}, {ledger.Ledger{Budget: 10}, 64, 6, api.ErrArg}, {ledger.Ledger{Budget: 10}, 0, 6, api.OK}, {ledger.Ledger{Budget: 10}, 63, 6, api.OK},
		{ledger.Ledger{Budget: 10}, 1, -1, api.ErrArg}, {ledger.Ledger{Budget: 10}, 1, power + 1, api.ErrArg}, {ledger.Ledger{Budget: 10}, 1, power, api.ErrFull}, {ledger.Ledger{Budget: power}, 1, power, api.OK}, {ledger.Ledger{Budget: power}, 1, power + 1, api.ErrArg},
		{ledger.Ledger{Budget: 10, L: six}, 1, -1, api.ErrArg}, {ledger.Ledger{Budget: 10, L: six}, 1, power + 1, api.ErrArg}, {ledger.Ledger{Budget: 10, L: six}, 64, 11, api.ErrArg},
		// A car that has one already, ahead of what fits.
		{ledger.Ledger{Budget: 10, L: six}, 1, 1, api.ErrTwice}, {ledger.Ledger{Budget: 10, L: six}, 1, 0, api.ErrTwice}, {ledger.Ledger{Budget: 10, L: six}, 1, 11, api.ErrTwice}, {ledger.Ledger{Budget: 10, L: six}, 1, power, api.ErrTwice}, {ledger.Ledger{Budget: 10, L: row(2, 3, 1, 0)}, 1, 0, api.ErrTwice},
		// The last car.
		{ledger.Ledger{Budget: power, L: whole(16384)[:63]}, 63, 16384, api.OK}, {ledger.Ledger{Budget: power, L: whole(16384)[:63]}, 63, 16385, api.ErrFull}, {ledger.Ledger{Budget: power, L: whole(16384)}, 63, 0, api.ErrTwice},
	} {
		on, err := c.l.Grant(c.car, c.peak)
		want := c.l
		if c.want == api.OK {
			want.L = append(slices.Clone(c.l.L), ledger.Permit{Car: c.car, Peak: c.peak})
		}
		if err != c.want || !same(on, want) {
			t.Errorf("%+v.Grant(%d, %d) = %+v, %v, want %v", c.l, c.car, c.peak, on, err, c.want)
		}
	}
}

func TestGrantOfAllSmallOnes(t *testing.T) {
	small(func(l ledger.Ledger) {
		for _, car := range []int{-1, 0, 1, 2, 3, 62, 63, 64} {
			for _, peak := range []int{-1, 0, 1, 2, 3, 4, 5, 6, 7, 8, power, power + 1} {
				on, err := l.Grant(car, peak)
				if want, wantErr := grantOf(l, car, peak); err != wantErr || !same(on, want) {
					t.Fatalf("%+v.Grant(%d, %d) = %+v, %v, want %+v, %v", l, car, peak, on, err, want, wantErr)
				}
			}
		}
	})
}

func TestGrantOfGreatOnes(t *testing.T) {
	for _, l := range great() {
		room := l.Budget - sumOf(l.L)
		kept := room - max(0, l.Margin-l.Credit)
		for _, car := range append([]int{4, 5, 6, 9}, some...) {
			for _, peak := range append([]int{room - 1, room, room + 1, kept - 1, kept, kept + 1}, some...) {
				on, err := l.Grant(car, peak)
				if want, wantErr := grantOf(l, car, peak); err != wantErr || !same(on, want) {
					t.Fatalf("%+v.Grant(%d, %d) = %+v, %v, want %+v, %v", l, car, peak, on, err, want, wantErr)
				}
			}
		}
	}
}

func TestGive(t *testing.T) {
	l := ledger.Ledger{Budget: 20, Margin: 3, Credit: 1, L: row(7, 6, 0, 3, 63, 0)}
	for _, c := range []struct {
		car  int
		want []ledger.Permit
		had  bool
	}{
		{7, row(0, 3, 63, 0), true}, {0, row(7, 6, 63, 0), true}, {63, row(7, 6, 0, 3), true},
		{1, l.L, false}, {6, l.L, false}, {-1, l.L, false}, {64, l.L, false}, {3, l.L, false}, {greatest, l.L, false}, {least, l.L, false},
	} {
		on, had := l.Give(c.car)
		if want := (ledger.Ledger{Budget: 20, Margin: 3, Credit: 1, L: c.want}); had != c.had || !same(on, want) {
			t.Errorf("Give(%d) = %+v, %t", c.car, on, had)
		}
	}
	if on, had := (ledger.Ledger{Budget: 4, L: row(0, 4)}).Give(0); !had || len(on.L) != 0 || on.Budget != 4 {
		t.Error(on, had)
	}
	if on, had := (ledger.Ledger{Budget: 4}).Give(0); had || len(on.L) != 0 || on.Budget != 4 {
		t.Error(on, had)
	}
}

func TestGiveOfAllCars(t *testing.T) {
	try := func(l ledger.Ledger, car int) {
		on, had := l.Give(car)
		if want, wantHad := giveOf(l, car); had != wantHad || !same(on, want) {
			t.Fatalf("%+v.Give(%d) = %+v, %t", l, car, on, had)
		}
	}
	small(func(l ledger.Ledger) {
		for _, car := range []int{-1, 0, 1, 2, 3, 62, 63, 64} {
			try(l, car)
		}
	})
	for _, l := range great() {
		for car := -1; car <= 64; car++ {
			try(l, car)
		}
		for _, car := range some {
			try(l, car)
		}
	}
}

// P15.3

func TestFit(t *testing.T) {
	three := row(5, 4, 2, 3, 9, 2)
	for _, c := range []struct {
		l      []ledger.Permit
		budget int
		want   int // the Budget that is told
		stay   int
		taken  []int
	}{
		{row(1, 6), 5, 5, 0, []int{1}}, {row(1, 6), 6, 6, 1, nil}, {row(1, 6), 7, 7, 1, nil}, {nil, 5, 5, 0, nil}, {nil, 0, 0, 0, nil},
		// The last ones are taken first.
		{three, 9, 9, 3, nil}, {three, 8, 8, 2, []int{9}}, {three, 7, 7, 2, []int{9}}, {three, 6, 6, 1, []int{9, 2}}, {three, 4, 4, 1, []int{9, 2}}, {three, 3, 3, 0, []int{9, 2, 5}}, {three, 0, 0, 0, []int{9, 2, 5}},
		// Even those of nothing, and those that would fit; and no more of them than must be.
		{row(1, 6, 2, 0), 5, 5, 0, []int{2, 1}}, {row(1, 6, 2, 0), 6, 6, 2, nil}, {row(1, 0, 2, 6), 5, 5, 1, []int{2}}, {row(1, 0, 2, 6, 3, 1), 5, 5, 1, []int{3, 2}}, {row(1, 6, 2, 1), 5, 5, 0, []int{2, 1}}, {row(3, 0, 1, 0), 0, 0, 2, nil}, {row(3, 0, 1, 1), 0, 0, 1, []int{1}},
		// Budgets that may not be.
		{three, -1, 0, 0, []int{9, 2, 5}}, {three, least, 0, 0, []int{9, 2, 5}}, {row(3, 0, 1, 1), -1, 0, 1, []int{1}}, {row(3, 0), least, 0, 1, nil}, {three, power, power, 3, nil}, {three, power + 1, power, 3, nil}, {three, greatest, power, 3, nil}, {nil, greatest, power, 0, nil}, {nil, -5, 0, 0, nil},
	} {
		l := ledger.Ledger{Budget: 20, Margin: 3, Credit: 1, L: c.l}
		on, taken := l.Fit(c.budget)
		if want := (ledger.Ledger{Budget: c.want, Margin: 3, Credit: 1, L: c.l[:c.stay]}); !same(on, want) || !slices.Equal(taken, c.taken) {
			t.Errorf("%+v.Fit(%d) = %+v, %v, want %+v, %v", l, c.budget, on, taken, want, c.taken)
		}
	}
}

func TestFitOfAllBudgets(t *testing.T) {
	try := func(l ledger.Ledger, budget int) {
		on, taken := l.Fit(budget)
		if want, wantTaken := fitOf(l, budget); !same(on, want) || !slices.Equal(taken, wantTaken) {
			t.Fatalf("%+v.Fit(%d) = %+v, %v, want %+v, %v", l, budget, on, taken, want, wantTaken)
		}
	}
	small(func(l ledger.Ledger) {
		for budget := -2; budget <= 12; budget++ {
			try(l, budget)
		}
	})
	for _, l := range great() {
		sum := 0
		for _, p := range l.L {
			sum += p.Peak
			try(l, sum-1)
			try(l, sum)
			try(l, sum+1)
		}
		for _, budget := range some {
			try(l, budget)
		}
	}
}

func TestFitOfABudgetThatGrowsKeepsAll(t *testing.T) {
	l := ledger.Ledger{Budget: 128, Margin: 7, L: whole(2)}
	for budget := 128; budget <= 300; budget++ {
		on, taken := l.Fit(budget)
		if on.Budget != budget || on.Margin != 7 || len(on.L) != 64 || len(taken) != 0 {
			t.Fatal(budget, on, taken)
		}
	}
}

// What is told is new

func TestToldLedgersAreNewOnes(t *testing.T) {
	// There is room behind the permits, that is not the ledger's own.
	held := make([]ledger.Permit, 3, 8)
	copy(held, row(1, 2, 2, 2, 3, 2))
	copy(held[3:8], row(41, 1, 42, 1, 43, 1, 44, 1, 45, 1))
	before := slices.Clone(held[:8])
	l := ledger.Ledger{Budget: 9, Margin: 1, L: held}
	all := []func() ledger.Ledger{
		func() ledger.Ledger { on, _ := l.Grant(4, 2); return on },
		func() ledger.Ledger { on, _ := l.Grant(4, 9); return on },
		func() ledger.Ledger { on, _ := l.Grant(3, 1); return on },
		func() ledger.Ledger { on, _ := l.Grant(-1, 1); return on },
		func() ledger.Ledger { on, _ := l.Give(1); return on },
		func() ledger.Ledger { on, _ := l.Give(3); return on },
		func() ledger.Ledger { on, _ := l.Give(9); return on },
		func() ledger.Ledger { on, _ := l.Fit(9); return on },
		func() ledger.Ledger { on, _ := l.Fit(4); return on },
		func() ledger.Ledger { on, _ := l.Fit(0); return on },
	}
	for i, a := range all {
		for j, b := range all {
			x, y := a(), b()
			kept := slices.Clone(x.L)
			for k := range y.L {
				y.L[k] = ledger.Permit{Car: 60, Peak: 60}
			}
			_ = append(y.L, row(61, 61, 62, 62)...)
			if !slices.Equal(x.L, kept) || !slices.Equal(held[:8], before) {
				t.Fatalf("calls %d, %d: %+v was %+v; what was handed in is %+v", i, j, x.L, kept, held[:8])
			}
		}
	}
	for i, a := range all {
		x := a()
		kept := slices.Clone(x.L)
		held[0].Peak, held[2].Car = 1, 50
		if !slices.Equal(x.L, kept) {
			t.Fatalf("call %d: %+v was %+v", i, x.L, kept)
		}
		copy(held, before[:3])
	}
}

func TestOneLedgerGrantsTwoWays(t *testing.T) {
	l := ledger.Ledger{Budget: 100}
	for car := range 20 {
		a, _ := l.Grant(40, 1)
		b, _ := l.Grant(41, 2)
		c, err := l.Grant(car, 3)
		if p, has := a.Has(40); !has || p.Peak != 1 || len(a.L) != car+1 {
			t.Fatal(a)
		}
		if p, has := b.Has(41); !has || p.Peak != 2 || len(b.L) != car+1 {
			t.Fatal(b)
		}
		if len(l.L) != car || len(c.L) != car+1 || err != api.OK {
			t.Fatal(l, c, err)
		}
		l = c
	}
}

// P15.4

// mixed goes through numbers, always the same ones.
func mixed(times int, f func(n uint64)) {
	x := uint64(88172645463325252)
	for range times {
		x ^= x << 13
		x ^= x >> 7
		x ^= x << 17
		f(x)
	}
}

func TestSumIsNeverAboveBudget(t *testing.T) {
	l := ledger.Ledger{Budget: 200, Margin: 20}
	granted, full, taken := 0, 0, 0
	mixed(300000, func(n uint64) {
		car, peak := int(n>>8%66)-1, int(n>>20%50)-1
		was := l
		switch n % 8 {
		case 0, 1, 2, 3:
			want, wantErr := grantOf(l, car, peak)
			var err api.Errno
			l, err = l.Grant(car, peak)
			if err != wantErr || !same(l, want) {
				t.Fatalf("%+v.Grant(%d, %d) = %+v, %v", was, car, peak, l, err)
			}
			switch err {
			case api.OK:
				granted++
			case api.ErrFull:
				full++
			}
		case 4, 5:
			want, wantHad := giveOf(l, car)
			var had bool
			if l, had = l.Give(car); had != wantHad || !same(l, want) {
				t.Fatalf("%+v.Give(%d) = %+v, %t", was, car, l, had)
			}
		case 6:
			budget := int(n>>32%420) - 10
			want, wantGone := fitOf(l, budget)
			var gone []int
			if l, gone = l.Fit(budget); !slices.Equal(gone, wantGone) || !same(l, want) {
				t.Fatalf("%+v.Fit(%d) = %+v, %v", was, budget, l, gone)
			}
			taken += len(gone)
		case 7:
			l.Margin, l.Credit = int(n>>32%40), int(n>>40%40)
		}
		if !ledger.Check(l) || l.Sum() > l.Budget || sumOf(l.L) != l.Sum() {
			t.Fatalf("%+v is now %+v, of a Sum of %d", was, l, l.Sum())
		}
	})
	if granted < 10000 || full < 10000 || taken < 10000 {
		t.Errorf("%d granted, %d full, %d taken", granted, full, taken)
	}
}

func TestALedgerWithoutPermitsGrantsAllThatItsBudgetBears(t *testing.T) {
	try := func(budget, margin, credit int) {
		l := ledger.Ledger{Budget: budget, Margin: margin, Credit: credit}
		for _, car := range []int{0, 1, 31, 63} {
			for _, peak := range []int{0, budget / 2, max(0, budget-1), budget} {
				if on, err := l.Grant(car, peak); err != api.OK || on.Sum() != peak || !slices.Equal(on.L, row(car, peak)) {
					t.Fatalf("%+v.Grant(%d, %d) = %+v, %v", l, car, peak, on, err)
				}
			}
			want := api.ErrFull
			if budget == power {
				want = api.ErrArg
			}
			if on, err := l.Grant(car, budget+1); err != want || len(on.L) != 0 {
				t.Fatalf("%+v.Grant(%d, %d) = %+v, %v", l, car, budget+1, on, err)
			}
		}
	}
	for _, margin := range []int{0, 1, 5, 256, power} {
		for _, credit := range []int{0, 1, 5, 257, power} {
			for budget := range 300 {
				try(budget, margin, credit)
			}
			for _, budget := range []int{65535, 65536, power - 1, power} {
				try(budget, margin, credit)
			}
		}
	}
}

func TestALedgerThatGaveAllBackGrantsAllAgain(t *testing.T) {
	l := ledger.Ledger{Budget: 10, Margin: 4}
	l, _ = l.Grant(3, 5)
	l, _ = l.Grant(8, 1)
	l, _ = l.Give(3)
	if _, err := l.Grant(3, 10); err != api.ErrFull {
		t.Error(err)
	}
	l, _ = l.Give(8)
	if on, err := l.Grant(3, 10); err != api.OK || on.Sum() != 10 {
		t.Error(on, err)
	}
}

func TestOfWhichNothingIsTold(t *testing.T) {
	// Some answer.
	for _, a := range some {
		for _, b := range some {
			for _, l := range []ledger.Ledger{
				{Budget: a, Margin: b, Credit: a, L: row(1, a, 2, b)}, {Budget: 9, Margin: a, Credit: b, L: row(a, b, b, a, a, a)}, {Budget: b, L: row(1, a, 1, b, 1, 7)}, {Budget: 9, L: row(a, greatest, b, greatest, 1, greatest, 2, least, 3, least)},
			} {
				ledger.Check(l)
				l.Sum()
				l.Has(a)
				l.Grant(a, b)
				l.Grant(1, b)
				l.Grant(9, 9)
				l.Give(a)
				l.Fit(a)
				l.Fit(b)
			}
		}
	}
}

func FuzzAsTheWordsSay(f *testing.F) {
	f.Add(10, 3, 1, []byte{1, 6}, 2, 2, 7)
	f.Add(10, 0, 0, []byte{1, 6, 2, 0}, 2, 5, 5)
	f.Add(power, power, power, []byte{0, 255, 63, 255}, 64, power, -1)
	f.Add(greatest, least, -1, []byte{1, 1, 1, 1, 64}, greatest, least, greatest)
	f.Fuzz(func(t *testing.T, budget, margin, credit int, permits []byte, car, peak, cut int) {
		l := ledger.Ledger{Budget: budget, Margin: margin, Credit: credit}
		for len(permits) >= 2 {
			l.L = append(l.L, ledger.Permit{Car: int(int8(permits[0])), Peak: int(int8(permits[1])) << 3})
			permits = permits[2:]
		}
		is, sum := ledger.Check(l), l.Sum()
		p, has := l.Has(car)
		granted, err := l.Grant(car, peak)
		given, had := l.Give(car)
		fit, taken := l.Fit(cut)
		if is != checkOf(l) {
			t.Errorf("Check(%+v) = %t", l, is)
		}
		if !checkOf(l) {
			return
		}
		if sum != sumOf(l.L) {
			t.Errorf("%+v: Sum() = %d", l, sum)
		}
		if want, wantHas := hasOf(l, car); p != want || has != wantHas {
			t.Errorf("%+v.Has(%d) = %+v, %t", l, car, p, has)
		}
		if want, wantErr := grantOf(l, car, peak); !same(granted, want) || err != wantErr {
			t.Errorf("%+v.Grant(%d, %d) = %+v, %v, want %+v, %v", l, car, peak, granted, err, want, wantErr)
		}
		if want, wantHad := giveOf(l, car); !same(given, want) || had != wantHad {
			t.Errorf("%+v.Give(%d) = %+v, %t", l, car, given, had)
		}
		if want, wantTaken := fitOf(l, cut); !same(fit, want) || !slices.Equal(taken, wantTaken) {
			t.Errorf("%+v.Fit(%d) = %+v, %v, want %+v, %v", l, cut, fit, taken, want, wantTaken)
		}
	})
}
