package phase_test

import (
	"math"
	"slices"
	"testing"

	"paternoster/phase"
)

const (
	least    = math.MinInt
	greatest = math.MaxInt
)

// strange are numbers of no phase; some of them would be one's if only their last bits counted.
var strange = []int{least, least + 1, -1 << 32, -1<<32 + 1, -1<<31 + 2, -256, -255, -254, -251, -128, -65, -64, -63, -8, -6, -5, -2, -1, 6, 7, 8, 9, 10, 11, 12, 13, 16, 31, 32, 33, 63, 64, 65, 69, 128, 129, 255, 256, 257, 261, 1 << 16, 1 << 31, 1 << 32, 1<<32 + 1, 1<<32 + 5, greatest - 1, greatest}

// words are phases and what they may go to, as the chapter's table tells it.
var words = map[string][]string{
	"normal":  {"normal", "stalled", "out"},
	"stalled": {"stalled", "normal", "recall", "out"},
	"recall":  {"recall", "stalled", "parked", "out"},
	"parked":  {"parked", "normal", "stalled", "serving", "out"},
	"serving": {"serving", "normal", "stalled", "parked", "out"},
	"out":     {"out", "normal", "stalled"},
}

// all are the phases' names, in the order of their numbers.
var all = []string{"normal", "stalled", "recall", "parked", "serving", "out"}

// called is the name of a phase, and whether there is one of that number.
func called(p int) (string, bool) {
	if p < 0 || p > 5 {
		return "", false
	}
	return all[p], true
}

// mayOf is May, as the promise's words tell it.
func mayOf(from, to int) bool {
	a, isA := called(from)
	b, isB := called(to)
	return isA && isB && slices.Contains(words[a], b)
}

// fitsOf is Fits, as the promise's words tell it: pair by pair.
func fitsOf(l []int) bool {
	for i, p := range l {
		if _, is := called(p); !is {
			return false
		}
		for j, q := range l {
			switch {
			case i == j:
			case p == 2 && (q == 2 || q == 4), p == 4 && q == 4:
				return false
			case p == 0 && q != 0 && q != 5:
				return false
			}
		}
	}
	return true
}

// followsOf is Follows, as the promise's words tell it.
func followsOf(from, to []int) bool {
	if len(from) != len(to) || !fitsOf(from) || !fitsOf(to) {
		return false
	}
	for i, p := range from {
		if !mayOf(p, to[i]) {
			return false
		}
	}
	return true
}

// acceptOf is Accept, as the promise's words tell it.
func acceptOf(rows [][]int) int {
	if len(rows) == 0 || !fitsOf(rows[0]) {
		return 0
	}
	many := 1
	for many < len(rows) && followsOf(rows[many-1], rows[many]) {
		many++
	}
	return many
}

// eachList goes through all lists of so many numbers from first to last; one list is used for all.
func eachList(many, first, last int, f func(l []int)) {
	l := make([]int, many)
	var fill func(i int)
	fill = func(i int) {
		if i == many {
			f(l)
			return
		}
		for p := first; p <= last; p++ {
			l[i] = p
			fill(i + 1)
		}
	}
	fill(0)
}

// fitting are all lists of so many phases that fit.
func fitting(many int) [][]int {
	var lists [][]int
	eachList(many, 0, 5, func(l []int) {
		if fitsOf(l) {
			lists = append(lists, slices.Clone(l))
		}
	})
	return lists
}

// repeated is a list of the same phase so many times.
func repeated(p, many int) []int { return slices.Repeat([]int{p}, many) }

// with is a copy of a list, with another phase at a place.
func with(l []int, at, p int) []int {
	c := slices.Clone(l)
	c[at] = p
	return c
}

// P21.1

func TestNumbers(t *testing.T) {
	if l := []int{phase.Normal, phase.Stalled, phase.Recall, phase.Parked, phase.Serving, phase.Out}; !slices.Equal(l, []int{0, 1, 2, 3, 4, 5}) {
		t.Errorf("phases are %v", l)
	}
}

func TestName(t *testing.T) {
	for p, want := range all {
		if name := phase.Name(p); name != want {
			t.Errorf("Name(%d) = %q, want %q", p, name, want)
		}
	}
}

func TestNameOfAnotherNumber(t *testing.T) {
	for _, p := range strange {
		if name := phase.Name(p); name != "" {
			t.Errorf("Name(%d) = %q", p, name)
		}
	}
	for p := -1000; p <= 1000; p++ {
		want, _ := called(p)
		if name := phase.Name(p); name != want {
			t.Errorf("Name(%d) = %q, want %q", p, name, want)
		}
	}
}

func TestMay(t *testing.T) {
	for _, c := range []struct {
		from, to int
		want     bool
	}{
		// The chapter's examples.
		{phase.Stalled, phase.Recall, true},
		{phase.Normal, phase.Recall, false},
		// An outage, step by step, and back.
		{phase.Normal, phase.Stalled, true},
		{phase.Recall, phase.Parked, true},
		{phase.Parked, phase.Serving, true},
		{phase.Serving, phase.Parked, true},
		{phase.Parked, phase.Normal, true},
		{phase.Serving, phase.Normal, true},
		{phase.Stalled, phase.Normal, true},
		// What an outage has no step for.
		{phase.Normal, phase.Parked, false},
		{phase.Normal, phase.Serving, false},
		{phase.Stalled, phase.Parked, false},
		{phase.Stalled, phase.Serving, false},
		{phase.Recall, phase.Normal, false},
		{phase.Recall, phase.Serving, false},
		{phase.Parked, phase.Recall, false},
		{phase.Serving, phase.Recall, false},
		// Out of order, and in order again.
		{phase.Recall, phase.Out, true},
		{phase.Out, phase.Normal, true},
		{phase.Out, phase.Stalled, true},
		{phase.Out, phase.Recall, false},
		{phase.Out, phase.Parked, false},
		{phase.Out, phase.Serving, false},
	} {
		if may := phase.May(c.from, c.to); may != c.want {
			t.Errorf("May(%d, %d) = %t, want %t", c.from, c.to, may, c.want)
		}
	}
}

func TestMayStay(t *testing.T) {
	for p := range all {
		if !phase.May(p, p) {
			t.Errorf("May(%d, %d) is false", p, p)
		}
	}
}

func TestMayOfAllPairs(t *testing.T) {
	for from := -300; from <= 300; from++ {
		for to := -300; to <= 300; to++ {
			if may, want := phase.May(from, to), mayOf(from, to); may != want {
				t.Errorf("May(%d, %d) = %t, want %t", from, to, may, want)
			}
		}
	}
}

func TestMayOfOtherNumbers(t *testing.T) {
	for _, p := range strange {
		for q := range all {
			if phase.May(p, q) {
				t.Errorf("May(%d, %d) is true", p, q)
			}
			if phase.May(q, p) {
				t.Errorf("May(%d, %d) is true", q, p)
			}
		}
		for _, q := range strange {
			if phase.May(p, q) {
				t.Errorf("May(%d, %d) is true", p, q)
			}
		}
	}
}

// P21.2

func TestFits(t *testing.T) {
	const n, s, r, p, v, o = phase.Normal, phase.Stalled, phase.Recall, phase.Parked, phase.Serving, phase.Out
	for _, c := range []struct {
		l    []int
		want bool
	}{
		// One alone.
		{[]int{n}, true}, {[]int{s}, true}, {[]int{r}, true}, {[]int{p}, true}, {[]int{v}, true}, {[]int{o}, true},
		// None that isn't one of these.
		{[]int{6}, false}, {[]int{-1}, false}, {[]int{n, 6}, false}, {[]int{-1, o}, false}, {[]int{s, p, 7}, false},
		// No two Recall.
		{[]int{r, r}, false}, {[]int{r, s, r}, false}, {[]int{r, r, r}, false}, {[]int{r, s, p, o}, true},
		// No two Serving.
		{[]int{v, v}, false}, {[]int{v, p, v}, false}, {[]int{v, v, v}, false}, {[]int{v, s, p, o}, true},
		// None Recall where one is Serving.
		{[]int{r, v}, false}, {[]int{v, r}, false}, {[]int{v, p, o, r}, false},
		// If one is Normal, all Normal or Out.
		{[]int{n, n}, true}, {[]int{n, o}, true}, {[]int{o, n, o}, true}, {[]int{o, o}, true},
		{[]int{n, s}, false}, {[]int{r, n}, false}, {[]int{n, p}, false}, {[]int{v, n}, false}, {[]int{o, n, s}, false}, {[]int{n, n, o, p}, false},
		// Two Stalled, two Parked, two Out.
		{[]int{s, s}, true}, {[]int{p, p}, true}, {[]int{o, s, o, p, s, p}, true},
	} {
		if fits := phase.Fits(c.l); fits != c.want {
			t.Errorf("Fits(%v) = %t, want %t", c.l, fits, c.want)
		}
	}
}

func TestFitsOfNone(t *testing.T) {
	if !phase.Fits(nil) || !phase.Fits([]int{}) {
		t.Errorf("Fits(nil) = %t, Fits of an empty list = %t", phase.Fits(nil), phase.Fits([]int{}))
	}
}

func TestFitsOfAllShortLists(t *testing.T) {
	for many := range 7 {
		eachList(many, -1, 6, func(l []int) {
			if fits, want := phase.Fits(l), fitsOf(l); fits != want {
				t.Fatalf("Fits(%v) = %t, want %t", l, fits, want)
			}
		})
	}
}

func TestFitsOfOtherNumbers(t *testing.T) {
	for _, p := range strange {
		for _, l := range [][]int{{p}, {p, p}, {0, p}, {p, 0}, {1, p, 3}, {5, 5, p}, {p, 2}, {4, p}} {
			if phase.Fits(l) {
				t.Errorf("Fits(%v) is true", l)
			}
		}
	}
}

func TestFitsOfAllCars(t *testing.T) {
	// Each place counts, the first and the last ones too.
	for _, many := range []int{63, 64, 65} {
		for base := range all {
			for p := -1; p <= 6; p++ {
				for at := range many {
					l := with(repeated(base, many), at, p)
					if fits, want := phase.Fits(l), fitsOf(l); fits != want {
						t.Fatalf("Fits of %d times %d with %d at %d = %t, want %t", many, base, p, at, fits, want)
					}
				}
			}
		}
	}
}

func TestFitsOfEachTwoPlaces(t *testing.T) {
	for _, base := range []int{1, 3, 5} {
		for _, pair := range [][2]int{{2, 2}, {4, 4}, {2, 4}, {4, 2}, {0, 1}, {3, 0}, {2, 1}, {3, 4}} {
			for i := range 64 {
				for j := range i {
					l := with(with(repeated(base, 64), i, pair[0]), j, pair[1])
					if fits, want := phase.Fits(l), fitsOf(l); fits != want {
						t.Fatalf("Fits(%v) = %t, want %t", l, fits, want)
					}
				}
			}
		}
	}
}

func TestFitsOfManyMore(t *testing.T) {
	// So many that a count of few bits would be that of none, or of one.
	for _, many := range []int{255, 256, 257, 258, 1000, 1<<16 - 1, 1 << 16, 1<<16 + 1} {
		for p, name := range all {
			want := name != "recall" && name != "serving"
			if fits := phase.Fits(repeated(p, many)); fits != want {
				t.Errorf("Fits of %d times %s = %t, want %t", many, name, fits, want)
			}
		}
		for _, c := range []struct {
			p, q int
			want bool
		}{{0, 1, false}, {0, 5, true}, {1, 0, false}, {2, 4, false}, {3, 2, true}, {3, 0, false}, {5, 0, true}, {1, 4, true}, {0, 4, false}, {0, 2, false}} {
			if fits := phase.Fits(append(repeated(c.p, many), c.q)); fits != c.want {
				t.Errorf("Fits of %d times %d, and %d = %t, want %t", many, c.p, c.q, fits, c.want)
			}
		}
	}
}

func TestFollows(t *testing.T) {
	for _, c := range []struct {
		from, to []int
		want     bool
	}{
		{[]int{0, 0}, []int{1, 1}, true},
		{[]int{0, 5}, []int{1, 5}, true},
		{[]int{1, 1}, []int{2, 1}, true},
		{[]int{2, 1}, []int{3, 1}, true},
		{[]int{3, 1}, []int{3, 2}, true},
		{[]int{4, 3}, []int{3, 4}, true},
		{[]int{1, 3, 4, 5}, []int{0, 0, 0, 0}, true},
		{[]int{2, 3}, []int{3, 4}, true},
		{[]int{3, 2}, []int{4, 1}, true},
		// Not as many.
		{[]int{1}, []int{1, 1}, false},
		{[]int{1, 1}, []int{1}, false},
		{nil, []int{0}, false},
		{[]int{0}, nil, false},
		// What was doesn't fit, though each one may.
		{[]int{2, 2}, []int{1, 1}, false},
		{[]int{4, 4}, []int{3, 3}, false},
		{[]int{2, 4}, []int{3, 3}, false},
		{[]int{0, 1}, []int{0, 0}, false},
		{[]int{0, 3}, []int{1, 1}, false},
		// What is doesn't fit, though each one may.
		{[]int{1, 1}, []int{2, 2}, false},
		{[]int{3, 3}, []int{4, 4}, false},
		{[]int{1, 3}, []int{2, 4}, false},
		{[]int{0, 0}, []int{0, 1}, false},
		{[]int{1, 1}, []int{1, 0}, false},
		// One may not.
		{[]int{0, 0}, []int{2, 1}, false},
		{[]int{1, 1}, []int{1, 3}, false},
		{[]int{2, 1}, []int{0, 0}, false},
		{[]int{2, 5}, []int{5, 3}, false},
		{[]int{3, 1}, []int{2, 1}, false},
		// Those ahead, or behind, are other ones.
		{[]int{1, 3}, []int{3, 1}, false},
		// No phases at all.
		{[]int{6}, []int{6}, false},
		{[]int{-1}, []int{-1}, false},
		{[]int{0}, []int{6}, false},
		{[]int{6}, []int{0}, false},
	} {
		if follows := phase.Follows(c.from, c.to); follows != c.want {
			t.Errorf("Follows(%v, %v) = %t, want %t", c.from, c.to, follows, c.want)
		}
	}
}

func TestFollowsOfNone(t *testing.T) {
	for _, from := range [][]int{nil, {}} {
		for _, to := range [][]int{nil, {}} {
			if !phase.Follows(from, to) {
				t.Errorf("Follows(%#v, %#v) is false", from, to)
			}
		}
	}
}

func TestFollowsOfOneCar(t *testing.T) {
	numbers := append([]int{0, 1, 2, 3, 4, 5}, strange...)
	for _, from := range numbers {
		for _, to := range numbers {
			if follows, want := phase.Follows([]int{from}, []int{to}), mayOf(from, to); follows != want {
				t.Errorf("Follows([%d], [%d]) = %t, want %t", from, to, follows, want)
			}
		}
	}
}

func TestFollowsOfAllShortLists(t *testing.T) {
	var lists [][]int
	for many := range 4 {
		eachList(many, -1, 6, func(l []int) { lists = append(lists, slices.Clone(l)) })
	}
	for _, from := range lists {
		for _, to := range lists {
			if follows, want := phase.Follows(from, to), followsOf(from, to); follows != want {
				t.Fatalf("Follows(%v, %v) = %t, want %t", from, to, follows, want)
			}
		}
	}
}

func TestFollowsOfAllFourThatFit(t *testing.T) {
	lists := fitting(4)
	for _, from := range lists {
		for _, to := range lists {
			if follows, want := phase.Follows(from, to), followsOf(from, to); follows != want {
				t.Fatalf("Follows(%v, %v) = %t, want %t", from, to, follows, want)
			}
		}
	}
}

func TestFollowsOfEachPlace(t *testing.T) {
	for _, many := range []int{64, 300} {
		for at := range many {
			for _, base := range []int{1, 3, 5} {
				for from := -1; from <= 6; from++ {
					for to := -1; to <= 6; to++ {
						a, b := with(repeated(base, many), at, from), with(repeated(base, many), at, to)
						want := mayOf(from, to) && from != 0 && to != 0
						if base == 5 {
							want = mayOf(from, to)
						}
						if follows := phase.Follows(a, b); follows != want {
							t.Fatalf("%d times %d, and from %d to %d at %d: Follows is %t, want %t", many, base, from, to, at, follows, want)
						}
					}
				}
			}
		}
	}
}

func TestAccept(t *testing.T) {
	for _, c := range []struct {
		rows [][]int
		want int
	}{
		{nil, 0},
		{[][]int{}, 0},
		{[][]int{{0}}, 1},
		{[][]int{{0, 0}, {1, 1}, {2, 1}, {3, 1}, {3, 2}, {3, 3}, {4, 3}, {3, 4}, {0, 0}}, 9},
		// The first one doesn't fit, whatever follows.
		{[][]int{{9}}, 0},
		{[][]int{{2, 2}}, 0},
		{[][]int{{2, 2}, {1, 1}, {1, 1}}, 0},
		{[][]int{{0, 1}, {0, 0}, {0, 0}}, 0},
		{[][]int{{-1}, {0}}, 0},
		// The first one may be any that fits: it follows none.
		{[][]int{{4, 3}}, 1},
		{[][]int{{2, 5}, {3, 5}}, 2},
		{[][]int{{3, 3}, {4, 3}}, 2},
		// Another one doesn't follow the one ahead.
		{[][]int{{0, 0}, {1, 1}, {2, 1}, {3, 1}, {4, 1}, {4, 2}}, 5},
		{[][]int{{0}, {2}}, 1},
		{[][]int{{0}, {0}, {0}, {3}}, 3},
		{[][]int{{1, 1}, {2, 2}}, 1},
		{[][]int{{1}, {9}}, 1},
		// What comes behind it doesn't count, though it follows.
		{[][]int{{0}, {2}, {2}, {3}}, 1},
		{[][]int{{0}, {1}, {4}, {1}, {1}}, 2},
		// Though it would follow the one ahead of that one.
		{[][]int{{0}, {3}, {0}}, 1},
		{[][]int{{1}, {1}, {9}, {1}, {1}}, 2},
		// The last one counts, as each one does.
		{[][]int{{1}, {1}, {1}, {0}}, 4},
		{[][]int{{1}, {1}, {1}, {3}}, 3},
		// Others are as many as the first one.
		{[][]int{{1}, {1, 1}}, 1},
		{[][]int{{1, 1}, {1, 1}, {1}}, 2},
		{[][]int{{1, 1}, {}, {1, 1}}, 1},
		{[][]int{{}, {1}}, 1},
		{[][]int{{1}, nil}, 1},
		// Rows of no cars.
		{[][]int{nil}, 1},
		{[][]int{{}}, 1},
		{[][]int{nil, {}, nil, {}}, 4},
	} {
		if many := phase.Accept(c.rows); many != c.want {
			t.Errorf("Accept(%v) = %d, want %d", c.rows, many, c.want)
		}
	}
}

func TestAcceptOfOneCar(t *testing.T) {
	for many := range 7 {
		eachList(many, -1, 6, func(l []int) {
			var rows [][]int
			for _, p := range l {
				rows = append(rows, []int{p})
			}
			if x, want := phase.Accept(rows), acceptOf(rows); x != want {
				t.Fatalf("Accept(%v) = %d, want %d", rows, x, want)
			}
		})
	}
}

func TestAcceptOfTwoCars(t *testing.T) {
	eachList(6, -1, 6, func(l []int) {
		rows := [][]int{l[:2], l[2:4], l[4:]}
		if x, want := phase.Accept(rows), acceptOf(rows); x != want {
			t.Fatalf("Accept(%v) = %d, want %d", rows, x, want)
		}
	})
}

func TestAcceptOfRowsOfOtherLengths(t *testing.T) {
	lists := [][]int{nil, {}, {1}, {0}, {2}, {1, 1}, {1, 2}, {2, 2}, {0, 0}, {1, 0}, {1, 1, 1}, {3, 1, 2}, {6}}
	for _, a := range lists {
		for _, b := range lists {
			for _, c := range lists {
				for _, d := range lists {
					rows := [][]int{a, b, c, d}
					if x, want := phase.Accept(rows), acceptOf(rows); x != want {
						t.Fatalf("Accept(%v) = %d, want %d", rows, x, want)
					}
				}
			}
		}
	}
}

func TestAcceptOfManyRows(t *testing.T) {
	const many = 100000
	rows := slices.Repeat([][]int{{1, 3, 5}, {1, 4, 5}}, many/2)
	if x := phase.Accept(rows); x != many {
		t.Errorf("Accept of %d rows that follow = %d", many, x)
	}
	for _, at := range []int{0, 1, 2, 255, 256, 257, 1 << 15, 1 << 16, many - 2, many - 1} {
		kept := rows[at]
		rows[at] = []int{1, 0, 5}
		if x := phase.Accept(rows); x != at {
			t.Errorf("Accept of %d rows, of which the one at %d doesn't fit = %d", many, at, x)
		}
		rows[at] = kept
	}
}

func TestWhatIsHandedInStays(t *testing.T) {
	l, from, to := []int{1, 2, 5, 3, 9}, []int{3, 1, 5}, []int{4, 1, 5}
	rows := [][]int{{0, 0}, {1, 1}, {2, 1}, {4, 4}}
	for range 3 {
		if phase.Fits(l) || !phase.Fits(from) {
			t.Errorf("Fits(%v) = %t, Fits(%v) = %t", l, phase.Fits(l), from, phase.Fits(from))
		}
		if !phase.Follows(from, to) || phase.Follows(from, l) {
			t.Errorf("Follows(%v, %v) = %t, Follows(%v, %v) = %t", from, to, phase.Follows(from, to), from, l, phase.Follows(from, l))
		}
		if x := phase.Accept(rows); x != 3 {
			t.Errorf("Accept(%v) = %d", rows, x)
		}
	}
	for _, c := range []struct{ is, was []int }{
		{l, []int{1, 2, 5, 3, 9}}, {from, []int{3, 1, 5}}, {to, []int{4, 1, 5}},
		{rows[0], []int{0, 0}}, {rows[1], []int{1, 1}}, {rows[2], []int{2, 1}}, {rows[3], []int{4, 4}},
	} {
		if !slices.Equal(c.is, c.was) {
			t.Errorf("%v was changed: %v", c.was, c.is)
		}
	}
}

func TestOnlyWhatIsHandedInCounts(t *testing.T) {
	// Behind the ends, and ahead, of what is handed in there is more, that doesn't fit.
	l, rows := []int{9, 1, 1, 9}, [][]int{{9}, {1}, {1}, {9}}
	if !phase.Fits(l[1:3]) || !phase.Follows(l[1:2], l[2:3]) || phase.Accept(rows[1:3]) != 2 {
		t.Errorf("Fits is %t, Follows %t, Accept %d", phase.Fits(l[1:3]), phase.Follows(l[1:2], l[2:3]), phase.Accept(rows[1:3]))
	}
	// Nor is anything kept of other calls.
	for range 3 {
		if phase.Accept([][]int{{9}}) != 0 || phase.Accept([][]int{{3}}) != 1 || phase.Accept([][]int{{4}, {3}}) != 2 {
			t.Error("Accept hangs on the calls ahead of it")
		}
	}
}

// P21.3

// parts tells of a part of rows, all of which follow each other, that doesn't follow.
func parts(t *testing.T, rows [][]int) {
	t.Helper()
	for i := range rows {
		for j := i; j <= len(rows); j++ {
			if x := phase.Accept(rows[i:j]); x != j-i {
				t.Fatalf("%v follow each other, and Accept of those from %d to %d is %d", rows, i, j, x)
			}
		}
	}
}

// walk are rows of so many cars that follow each other, as chance has it (drawn from a seed).
func walk(cars, many int, seed uint32) [][]int {
	draw := func(n int) int {
		seed = seed*1664525 + 1013904223
		return int(seed>>8) % n
	}
	rows := [][]int{repeated(0, cars)}
	for len(rows) < many {
		last := rows[len(rows)-1]
		next := slices.Clone(last)
		switch draw(8) {
		case 0: // all is well, or well again
			next = repeated(0, cars)
		case 1: // mains fail
			next = repeated(1, cars)
		}
		for range 1 + draw(3) {
			next[draw(cars)] = draw(6)
		}
		if followsOf(last, next) {
			rows = append(rows, next)
		}
	}
	return rows
}

func TestAPartFollowsToo(t *testing.T) {
	for cars := 1; cars <= 9; cars++ {
		for seed := range uint32(20) {
			rows := walk(cars, 30, seed)
			if x := phase.Accept(rows); x != len(rows) {
				t.Fatalf("Accept(%v) = %d, want %d", rows, x, len(rows))
			}
			parts(t, rows)
		}
	}
}

func TestAPartOfAllShortRowsFollowsToo(t *testing.T) {
	lists := fitting(2)
	for _, a := range lists {
		for _, b := range lists {
			for _, c := range lists {
				for _, d := range lists {
					rows := [][]int{a, b, c, d}
					parts(t, rows[:phase.Accept(rows)])
				}
			}
		}
	}
}

func TestWhatIsAcceptedIsJustAsFarAsItFollows(t *testing.T) {
	// Rows that follow, of which one is turned: those ahead of it are accepted, with it if it follows too.
	for seed := range uint32(50) {
		rows := walk(3, 20, seed)
		for at := range rows {
			for car := range 3 {
				for p := -1; p <= 6; p++ {
					kept := rows[at]
					rows[at] = with(kept, car, p)
					x, want := phase.Accept(rows), acceptOf(rows)
					if x != want || x < at {
						t.Fatalf("Accept(%v) = %d, want %d", rows, x, want)
					}
					parts(t, rows[:x])
					rows[at] = kept
				}
			}
		}
	}
}

func FuzzPhasesAsTheWordsSay(f *testing.F) {
	f.Add([]byte{0, 0, 1, 1, 2, 1, 3, 1, 4, 1, 4, 2}, 2, 6)
	f.Add([]byte{0, 0, 5, 1, 1, 5, 2, 1, 5, 3, 1, 1}, 3, greatest)
	f.Add([]byte{250, 6, 0, 255}, 1, -1)
	f.Add([]byte{}, 0, least)
	f.Fuzz(func(t *testing.T, b []byte, cars, p int) {
		cars = max(1, min(cars, 64))
		var l []int
		for _, x := range b {
			l = append(l, int(int8(x)))
		}
		rows := slices.Collect(slices.Chunk(l, cars))
		if len(rows) > 0 {
			rows = append(rows, with(rows[len(rows)-1], 0, p))
		}
		want, _ := called(p)
		if name := phase.Name(p); name != want {
			t.Errorf("Name(%d) = %q, want %q", p, name, want)
		}
		for i, row := range rows {
			if phase.Fits(row) != fitsOf(row) || phase.May(row[0], p) != mayOf(row[0], p) || phase.May(p, row[0]) != mayOf(p, row[0]) {
				t.Errorf("%v, %d: Fits %t, May %t, %t", row, p, phase.Fits(row), phase.May(row[0], p), phase.May(p, row[0]))
			}
			for _, to := range rows[i:] {
				if follows := phase.Follows(row, to); follows != followsOf(row, to) {
					t.Errorf("Follows(%v, %v) = %t", row, to, follows)
				}
			}
		}
		x := phase.Accept(rows)
		if x != acceptOf(rows) {
			t.Fatalf("Accept(%v) = %d, want %d", rows, x, acceptOf(rows))
		}
		if len(rows) < 30 {
			parts(t, rows[:x])
		}
	})
}
