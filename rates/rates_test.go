package rates_test

import (
	"math"
	"testing"

	"paternoster/rates"
)

const (
	least    = math.MinInt
	greatest = math.MaxInt
)

// example is the rates of the chapter's example, with a Gain and a Door that no other sum comes to.
var example = rates.Rates{Idle: 1, Move: 2, Gain: 10, Pull: 3, Door: 500, Weight: 4}

type field struct {
	name string
	of   func(r *rates.Rates) *int
	most int
}

// fields are the parts of rates, each with the greatest one that may be.
func fields() []field {
	return []field{
		{"Idle", func(r *rates.Rates) *int { return &r.Idle }, 1000},
		{"Move", func(r *rates.Rates) *int { return &r.Move }, 1000},
		{"Gain", func(r *rates.Rates) *int { return &r.Gain }, 1000},
		{"Pull", func(r *rates.Rates) *int { return &r.Pull }, 100},
		{"Door", func(r *rates.Rates) *int { return &r.Door }, 1000},
		{"Weight", func(r *rates.Rates) *int { return &r.Weight }, 64},
	}
}

// greatestRates is rates of which no part may be greater.
func greatestRates() rates.Rates {
	var r rates.Rates
	for _, f := range fields() {
		*f.of(&r) = f.most
	}
	return r
}

// some is rates of many kinds, all of which may be.
func some() []rates.Rates {
	l := []rates.Rates{
		example,
		{},
		greatestRates(),
		{Idle: 7, Move: 11, Gain: 13, Pull: 17, Door: 19, Weight: 0},
		{Idle: 7, Move: 11, Gain: 13, Pull: 17, Door: 19, Weight: 31},
		{Idle: 7, Move: 11, Gain: 13, Pull: 17, Door: 19, Weight: 32},
		{Idle: 7, Move: 11, Gain: 13, Pull: 17, Door: 19, Weight: 64},
		{Idle: 7, Move: 11, Gain: 0, Pull: 1, Door: 30, Weight: 20},
		{Idle: 500, Move: 100, Pull: 0, Door: 600, Weight: 20},
		{Idle: 500, Move: 100, Pull: 0, Door: 599, Weight: 20},
		{Idle: 500, Move: 100, Pull: 0, Door: 601, Weight: 20},
	}
	for _, f := range fields() {
		var r rates.Rates
		*f.of(&r) = f.most
		l = append(l, r)
		r = greatestRates()
		*f.of(&r) = 0
		l = append(l, r)
	}
	return l
}

// kinds are all that a car does, and some that it doesn't.
var kinds = []int{rates.Rest, rates.Gain, rates.Even, rates.Slow, rates.Door, least, -5, -1, 5, 6, 9, 256, greatest}

// dirs are up, down and neither, of all sizes.
var dirs = []int{least, -1000, -2, -1, 0, 1, 2, 1000, greatest}

// loads are all loads that count as they are, and such that don't.
func loads() []int {
	l := []int{least, -1000, 1000, greatest}
	for n := -3; n <= 67; n++ {
		l = append(l, n)
	}
	return l
}

// heavy is how heavy a load is, as the chapter's words tell it.
func heavy(r rates.Rates, load, dir int) int {
	if load < 0 {
		load = 0
	}
	if load > 64 {
		load = 64
	}
	if dir > 0 {
		return load - r.Weight
	}
	if dir < 0 {
		return r.Weight - load
	}
	return 0
}

// drawn is Draw, as the promise's words tell it.
func drawn(r rates.Rates, what, load, dir int) int {
	if what == 4 {
		return r.Door
	}
	if what < 1 || what > 3 || dir == 0 {
		return 0
	}
	n := r.Idle + r.Move
	if h := heavy(r, load, dir); h > 0 {
		n += r.Pull * h
	}
	if what == 1 {
		n += r.Gain
	}
	return n
}

// given is Gives, as the promise's words tell it.
func given(r rates.Rates, what, load, dir int) int {
	if h := heavy(r, load, dir); h < 0 && (what == 2 || what == 3) {
		return r.Pull * -h
	}
	return 0
}

// peak is Peak, as the promise's words tell it.
func peak(r rates.Rates, load, dir int) int {
	n := 0
	for _, what := range []int{1, 2, 3, 4} {
		n = max(n, drawn(r, what, load, dir))
	}
	return n
}

// most is Most, as the promise's words tell it.
func most(r rates.Rates) int {
	n := 0
	for load := range 65 {
		n = max(n, peak(r, load, 1), peak(r, load, -1))
	}
	return n
}

func TestWhatACarDoes(t *testing.T) {
	for want, what := range []int{rates.Rest, rates.Gain, rates.Even, rates.Slow, rates.Door} {
		if what != want {
			t.Errorf("the one at place %d is %d", want, what)
		}
	}
}

// P4.1

func TestCheck(t *testing.T) {
	for _, r := range some() {
		if !rates.Check(r) {
			t.Errorf("Check(%+v) = false", r)
		}
	}
}

func TestCheckOfEachPart(t *testing.T) {
	for _, f := range fields() {
		for _, n := range []int{0, 1, f.most / 2, f.most - 1, f.most, least, -f.most, -2, -1, f.most + 1, f.most + 2, 2 * f.most, 1 << 32, greatest} {
			// The other parts are as small, or as great, as may be: none of them makes up for this one.
			for _, r := range []rates.Rates{{}, example, greatestRates()} {
				*f.of(&r) = n
				if want := 0 <= n && n <= f.most; rates.Check(r) != want {
					t.Errorf("Check(%+v) = %v, of its %s", r, !want, f.name)
				}
			}
		}
	}
}

func TestDraw(t *testing.T) {
	for _, c := range []struct{ what, load, dir, want int }{
		{rates.Even, 6, 1, 9},
		{rates.Even, 6, -1, 3},
		{rates.Slow, 6, 1, 9},
		{rates.Slow, 6, -1, 3},
		{rates.Gain, 6, 1, 19},
		{rates.Gain, 6, -1, 13},
		{rates.Door, 6, 1, 500},
		{rates.Door, 6, -1, 500},
		{rates.Door, 6, 0, 500},
		{rates.Rest, 6, 1, 0},
		{rates.Rest, 6, -1, 0},
		{rates.Rest, 6, 0, 0},
		// Neither up nor down: nothing at all.
		{rates.Gain, 6, 0, 0},
		{rates.Even, 6, 0, 0},
		{rates.Slow, 6, 0, 0},
		// At, and about, the weight.
		{rates.Even, 4, 1, 3},
		{rates.Even, 4, -1, 3},
		{rates.Even, 5, 1, 6},
		{rates.Even, 5, -1, 3},
		{rates.Even, 3, 1, 3},
		{rates.Even, 3, -1, 6},
		{rates.Gain, 4, 1, 13},
		{rates.Gain, 3, -1, 16},
		// Loads that count as other ones.
		{rates.Even, 0, -1, 15},
		{rates.Even, -1, -1, 15},
		{rates.Even, least, -1, 15},
		{rates.Even, 63, 1, 180},
		{rates.Even, 64, 1, 183},
		{rates.Even, 65, 1, 183},
		{rates.Even, greatest, 1, 183},
		{rates.Even, -1, 1, 3},
		{rates.Even, 65, -1, 3},
		// Ways of any size.
		{rates.Even, 6, 1000, 9},
		{rates.Even, 6, greatest, 9},
		{rates.Even, 0, -2, 15},
		{rates.Even, 0, least, 15},
		// Whatever is none of these.
		{-1, 6, 1, 0},
		{5, 6, 1, 0},
		{9, 6, -1, 0},
		{least, 6, 1, 0},
		{greatest, 6, 1, 0},
	} {
		if n := rates.Draw(example, c.what, c.load, c.dir); n != c.want {
			t.Errorf("Draw of %d, load %d, dir %d = %d, want %d", c.what, c.load, c.dir, n, c.want)
		}
	}
}

func TestGives(t *testing.T) {
	for _, c := range []struct{ what, load, dir, want int }{
		{rates.Even, 6, -1, 6},
		{rates.Slow, 6, -1, 6},
		{rates.Even, 6, 1, 0},
		{rates.Slow, 6, 1, 0},
		{rates.Even, 1, 1, 9},
		{rates.Slow, 1, 1, 9},
		{rates.Even, 1, -1, 0},
		// Only those two give.
		{rates.Rest, 6, -1, 0},
		{rates.Gain, 6, -1, 0},
		{rates.Door, 6, -1, 0},
		{-1, 6, -1, 0},
		{5, 6, -1, 0},
		{9, 1, 1, 0},
		{least, 6, -1, 0},
		{greatest, 6, -1, 0},
		// Neither up nor down.
		{rates.Even, 6, 0, 0},
		{rates.Slow, 1, 0, 0},
		// At, and about, the weight.
		{rates.Even, 4, 1, 0},
		{rates.Even, 4, -1, 0},
		{rates.Even, 3, 1, 3},
		{rates.Even, 5, -1, 3},
		// Loads that count as other ones.
		{rates.Even, 0, 1, 12},
		{rates.Even, -1, 1, 12},
		{rates.Slow, least, 1, 12},
		{rates.Even, 63, -1, 177},
		{rates.Even, 64, -1, 180},
		{rates.Even, 65, -1, 180},
		{rates.Slow, greatest, -1, 180},
		// Ways of any size.
		{rates.Even, 6, -1000, 6},
		{rates.Even, 6, least, 6},
		{rates.Even, 1, greatest, 9},
	} {
		if n := rates.Gives(example, c.what, c.load, c.dir); n != c.want {
			t.Errorf("Gives of %d, load %d, dir %d = %d, want %d", c.what, c.load, c.dir, n, c.want)
		}
	}
}

// hold tells of a Draw, Gives or Peak that is not as the words say.
func hold(t *testing.T, r rates.Rates, table *rates.Table, load, dir int) {
	t.Helper()
	for _, what := range kinds {
		if n, want := rates.Draw(r, what, load, dir), drawn(r, what, load, dir); n != want {
			t.Errorf("Draw(%+v, %d, %d, %d) = %d, want %d", r, what, load, dir, n, want)
		}
		if n, want := rates.Gives(r, what, load, dir), given(r, what, load, dir); n != want {
			t.Errorf("Gives(%+v, %d, %d, %d) = %d, want %d", r, what, load, dir, n, want)
		}
	}
	if n, want := table.Peak(load, dir), peak(r, load, dir); n != want {
		t.Errorf("Peak(%d, %d) of %+v = %d, want %d", load, dir, r, n, want)
	}
}

func TestEachRatesLoadAndWay(t *testing.T) {
	for _, r := range some() {
		table := rates.New(r)
		for _, load := range loads() {
			for _, dir := range dirs {
				hold(t, r, table, load, dir)
			}
		}
		if n, want := table.Most(), most(r); n != want {
			t.Errorf("Most of %+v = %d, want %d", r, n, want)
		}
	}
}

func TestRatesThatMayNotBeAreTakenToo(t *testing.T) {
	// What is answered is free; that the calls end is not.
	for _, f := range fields() {
		for _, n := range []int{least, -1, f.most + 1, greatest} {
			r := greatestRates()
			*f.of(&r) = n
			for _, what := range kinds {
				for _, dir := range dirs {
					rates.Draw(r, what, least, dir)
					rates.Gives(r, what, greatest, dir)
				}
			}
		}
	}
}

// P4.2

func TestPeak(t *testing.T) {
	for _, c := range []struct {
		r               rates.Rates
		load, dir, want int
	}{
		{rates.Rates{Idle: 1, Move: 2, Gain: 10, Pull: 3, Door: 5, Weight: 4}, 0, -1, 25},
		{rates.Rates{Idle: 1, Move: 2, Gain: 10, Pull: 3, Door: 5, Weight: 4}, 0, 1, 13},
		{rates.Rates{Idle: 1, Move: 2, Gain: 10, Pull: 3, Door: 5, Weight: 4}, 4, 1, 13},
		{rates.Rates{Idle: 1, Move: 2, Gain: 10, Pull: 3, Door: 5, Weight: 4}, 4, -1, 13},
		{rates.Rates{Idle: 1, Move: 2, Gain: 10, Pull: 3, Door: 5, Weight: 4}, 64, 1, 193},
		{rates.Rates{Idle: 1, Move: 2, Gain: 10, Pull: 3, Door: 5, Weight: 4}, 99, 1, 193},
		{rates.Rates{Idle: 1, Move: 2, Gain: 10, Pull: 3, Door: 5, Weight: 4}, -99, -1, 25},
		{rates.Rates{Idle: 1, Move: 2, Gain: 10, Pull: 3, Door: 5, Weight: 4}, 5, 0, 5},
		// Where doors draw more than the way.
		{example, 64, 1, 500},
		{example, 0, -1, 500},
		{example, 0, 0, 500},
		{rates.Rates{Idle: 1, Door: 1}, 0, 1, 1},
		{rates.Rates{Idle: 1, Door: 2}, 0, 1, 2},
		{rates.Rates{Idle: 2, Door: 1}, 0, 1, 2},
		{rates.Rates{Idle: 2, Door: 1}, 0, 0, 1},
		{rates.Rates{}, 64, 1, 0},
		{greatestRates(), 64, 1, 3000},
		{greatestRates(), 0, -1, 9400},
	} {
		if n := rates.New(c.r).Peak(c.load, c.dir); n != c.want {
			t.Errorf("Peak(%d, %d) of %+v = %d, want %d", c.load, c.dir, c.r, n, c.want)
		}
	}
}

func TestMost(t *testing.T) {
	for _, c := range []struct {
		r    rates.Rates
		want int
	}{
		{rates.Rates{Idle: 1, Move: 2, Gain: 10, Pull: 3, Door: 5, Weight: 4}, 193}, // upwards, as full as may be
		{rates.Rates{Idle: 1, Move: 2, Gain: 10, Pull: 3, Door: 5, Weight: 60}, 193},
		{rates.Rates{Idle: 1, Move: 2, Gain: 10, Pull: 3, Door: 5, Weight: 64}, 205}, // downwards, empty
		{rates.Rates{Idle: 1, Move: 2, Gain: 10, Pull: 3, Door: 5, Weight: 32}, 109}, // both alike
		{rates.Rates{Idle: 1, Move: 2, Gain: 10, Pull: 3, Door: 193, Weight: 4}, 193},
		{rates.Rates{Idle: 1, Move: 2, Gain: 10, Pull: 3, Door: 194, Weight: 4}, 194}, // doors
		{rates.Rates{Door: 1000}, 1000},
		{rates.Rates{}, 0},
		{greatestRates(), 9400},
	} {
		if n := rates.New(c.r).Most(); n != c.want {
			t.Errorf("Most of %+v = %d, want %d", c.r, n, c.want)
		}
	}
}

func TestNewOfRatesThatMayNotBe(t *testing.T) {
	for _, f := range fields() {
		for _, n := range []int{least, -1, f.most + 1, greatest} {
			r := example
			*f.of(&r) = n
			if table := rates.New(r); table != nil {
				t.Errorf("New(%+v) is a table", r)
			}
		}
		for _, n := range []int{0, f.most} {
			r := example
			*f.of(&r) = n
			if table := rates.New(r); table == nil {
				t.Errorf("New(%+v) is none", r)
			}
		}
	}
}

func TestNoTable(t *testing.T) {
	var table *rates.Table
	for range 2 {
		if n := table.Laid(); n != 0 {
			t.Errorf("Laid of nil = %d", n)
		}
		if n := table.Most(); n != 0 {
			t.Errorf("Most of nil = %d", n)
		}
		for _, load := range loads() {
			for _, dir := range dirs {
				if n := table.Peak(load, dir); n != 0 {
					t.Errorf("Peak(%d, %d) of nil = %d", load, dir, n)
				}
			}
		}
	}
}

func TestLaidOnce(t *testing.T) {
	for name, ask := range map[string]func(table *rates.Table){
		"Peak":            func(table *rates.Table) { table.Peak(5, 1) },
		"Peak of no way":  func(table *rates.Table) { table.Peak(5, 0) },
		"Peak of no load": func(table *rates.Table) { table.Peak(least, least) },
		"Most":            func(table *rates.Table) { table.Most() },
	} {
		table := rates.New(example)
		for range 3 {
			if n := table.Laid(); n != 0 {
				t.Errorf("Laid ahead of %s = %d", name, n)
			}
		}
		ask(table)
		if n := table.Laid(); n != 1 {
			t.Errorf("Laid behind %s = %d", name, n)
		}
		for _, load := range loads() {
			for _, dir := range dirs {
				table.Peak(load, dir)
			}
			table.Most()
		}
		if n := table.Laid(); n != 1 {
			t.Errorf("Laid behind %s and all others = %d", name, n)
		}
	}
}

func TestTablesStandAlone(t *testing.T) {
	one := rates.New(example)
	two := rates.New(example)
	one.Most()
	if one.Laid() != 1 || two.Laid() != 0 {
		t.Errorf("Laid = %d, and of one that was not asked %d", one.Laid(), two.Laid())
	}
	other := rates.New(greatestRates())
	if n := other.Peak(0, -1); n != 9400 {
		t.Errorf("Peak(0, -1) = %d beside other tables", n)
	}
	if n := two.Most(); n != 500 {
		t.Errorf("Most = %d beside other tables", n)
	}
	// Asked in whichever order, all tell the same.
	for range 2 {
		if a, b := one.Peak(64, 1), two.Peak(64, 1); a != 500 || b != 500 {
			t.Errorf("Peak(64, 1) = %d and %d", a, b)
		}
		if n := one.Most(); n != 500 {
			t.Errorf("Most = %d behind Peak", n)
		}
	}
}

func TestTableKeepsItsRates(t *testing.T) {
	r := rates.Rates{Idle: 1, Move: 2, Gain: 10, Pull: 3, Door: 5, Weight: 4}
	table := rates.New(r)
	r.Pull, r.Door = 100, 1000
	if n := table.Peak(0, -1); n != 25 {
		t.Errorf("Peak(0, -1) = %d, once what was handed in was changed", n)
	}
	if n := table.Most(); n != 193 {
		t.Errorf("Most = %d, once what was handed in was changed", n)
	}
}

// P4.3

func TestNothingAboveThePeak(t *testing.T) {
	for _, r := range some() {
		table := rates.New(r)
		reached := false
		for _, load := range loads() {
			for _, dir := range dirs {
				p := table.Peak(load, dir)
				for _, what := range kinds {
					if n := rates.Draw(r, what, load, dir); n > p {
						t.Errorf("Draw(%+v, %d, %d, %d) = %d, but Peak is %d", r, what, load, dir, n, p)
					}
				}
				if p > table.Most() {
					t.Errorf("Peak(%d, %d) of %+v = %d, but Most is %d", load, dir, r, p, table.Most())
				}
				reached = reached || p == table.Most()
			}
		}
		if !reached {
			t.Errorf("Most of %+v = %d, but no Peak is", r, table.Most())
		}
	}
}

func TestNotBothWaysGive(t *testing.T) {
	for _, r := range some() {
		for _, load := range loads() {
			for _, what := range kinds {
				up, down := rates.Gives(r, what, load, 1), rates.Gives(r, what, load, -1)
				if up < 0 || down < 0 || up > 0 && down > 0 {
					t.Errorf("Gives(%+v, %d, %d) = %d upwards, %d downwards", r, what, load, up, down)
				}
			}
		}
	}
}

func FuzzAsTheWordsSay(f *testing.F) {
	f.Add(1, 2, 10, 3, 5, 4, 6, 1)
	f.Add(1, 2, 10, 3, 5, 4, 99, -1)
	f.Add(1, 2, 10, 101, 5, 4, 6, 0)
	f.Fuzz(func(t *testing.T, idle, move, gain, pull, door, weight, load, dir int) {
		r := rates.Rates{Idle: idle, Move: move, Gain: gain, Pull: pull, Door: door, Weight: weight}
		table := rates.New(r)
		if (table != nil) != rates.Check(r) {
			t.Errorf("Check(%+v) = %v, but New: %v", r, rates.Check(r), table != nil)
		}
		if table != nil {
			hold(t, r, table, load, dir)
			if n := table.Most(); n != most(r) || n < table.Peak(load, dir) {
				t.Errorf("Most of %+v = %d, want %d", r, n, most(r))
			}
		}
	})
}
