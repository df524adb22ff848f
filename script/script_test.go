package script_test

import (
	"fmt"
	"math"
	"math/big"
	"reflect"
	"regexp"
	"slices"
	"strconv"
	"strings"
	"testing"

	"paternoster/api"
	"paternoster/conf"
	"paternoster/group"
	"paternoster/phase"
	"paternoster/rates"
	"paternoster/script"
)

const (
	least    = math.MinInt
	greatest = math.MaxInt
	widest   = math.MaxUint64
	ahead    = "mains gen 0 0" // a line without events
)

// edges are numbers at which a text is longer, or shorter, than those beside it, and the bounds of an int.
var edges = []int{least, least + 1, -1 << 32, -1000, -100, -99, -10, -9, -1, 0, 1, 9, 10, 11, 99, 100, 101, 1000, 1 << 32, greatest - 1, greatest}

// plain is a group of two cars, without batteries.
func plain() conf.Conf {
	return conf.Conf{
		Banks:  []conf.Bank{{Cars: 2, Rates: rates.Rates{Idle: 1, Move: 4, Gain: 5, Pull: 1, Door: 3, Weight: 10}}},
		Floors: 3, Order: []int{1, 0}, Speed: 2, Width: 2, Dwell: 1, Good: 2, Dead: 2, Turn: 5, Cost: 1,
	}
}

// ev is an event.
func ev(kind, car, n int) group.Event { return group.Event{Kind: kind, Car: car, N: n} }

// with is a tick of events alone.
func with(events ...group.Event) group.In { return group.In{Events: events} }

// parsed is a line's tick; the test fails if it has none.
func parsed(t *testing.T, line string) group.In {
	t.Helper()
	in, err := script.Parse(line)
	if err != api.OK {
		t.Fatalf("Parse(%q): error %d", line, err)
	}
	return in
}

// refused sees to it that a line is none, and that nothing is told beside the error.
func refused(t *testing.T, line string, want api.Errno) {
	t.Helper()
	in, err := script.Parse(line)
	if err != want {
		t.Errorf("Parse(%.80q): error %d, want %d", line, err, want)
	}
	if !reflect.DeepEqual(in, group.In{}) {
		t.Errorf("Parse(%.80q): %v beside an error", line, in)
	}
}

// same tells whether two ticks are one: nil and empty lists are.
func same(a, b group.In) bool {
	return a.Mains == b.Mains && a.Gen == b.Gen && a.Capacity == b.Capacity && a.Blocked == b.Blocked && slices.Equal(a.Events, b.Events)
}

// chance is a row of numbers that looks like one by chance.
type chance struct{ seed uint32 }

// below is the next one, from 0 to below n.
func (c *chance) below(n int) int {
	c.seed = c.seed*1664525 + 1013904223
	return int(c.seed>>8) % n
}

// number is one of the edges, or another number.
func (c *chance) number() int {
	if c.below(2) == 0 {
		return edges[c.below(len(edges))]
	}
	return c.below(2000) - 1000
}

// bits is a number of 64 bits.
func (c *chance) bits() uint64 {
	switch c.below(4) {
	case 0:
		return 0
	case 1:
		return widest - uint64(c.below(3))
	case 2:
		return 1 << c.below(64)
	}
	return uint64(c.below(300))
}

// tick is a tick of up to 8 events, some of them of a Kind that there isn't.
func (c *chance) tick() group.In {
	in := group.In{Mains: c.below(2) == 0, Gen: c.below(2) == 0, Capacity: c.number(), Blocked: c.bits()}
	for range c.below(9) {
		in.Events = append(in.Events, ev(c.below(9)-1, c.number(), c.number()))
	}
	return in
}

// P24.1

// puts are ticks and their lines.
var puts = []struct {
	in   group.In
	line string
}{
	{group.In{}, "none none 0 0"},
	{group.In{Mains: true}, "mains none 0 0"},
	{group.In{Gen: true}, "none gen 0 0"},
	{group.In{Mains: true, Gen: true}, "mains gen 0 0"},
	{group.In{Capacity: 500}, "none none 500 0"},
	{group.In{Capacity: -1}, "none none -1 0"},
	{group.In{Capacity: greatest}, "none none 9223372036854775807 0"},
	{group.In{Capacity: least}, "none none -9223372036854775808 0"},
	{group.In{Blocked: 3}, "none none 0 3"},
	{group.In{Blocked: 1 << 63}, "none none 0 9223372036854775808"},
	{group.In{Blocked: widest}, "none none 0 18446744073709551615"},
	{group.In{Mains: true, Events: []group.Event{ev(group.Call, 0, 3)}}, "mains none 0 0 call 0 3"},
	{with(ev(group.Hall, 0, 2)), "none none 0 0 hall 2"},
	{with(ev(group.Call, 4, 5)), "none none 0 0 call 4 5"},
	{with(ev(group.Load, 6, 7)), "none none 0 0 load 6 7"},
	{with(ev(group.Fault, 8, 0)), "none none 0 0 fault 8"},
	{with(ev(group.Reset, 9, 0)), "none none 0 0 reset 9"},
	{with(ev(group.Pick, 10, 0)), "none none 0 0 pick 10"},
	{with(ev(group.Restart, 0, 11)), "none none 0 0 restart 11"},
	{with(ev(group.Restart, 0, least), ev(group.Restart, 0, greatest)), "none none 0 0 restart -9223372036854775808 restart 9223372036854775807"},
	{with(ev(group.Load, -1, -30), ev(group.Load, 0, 0)), "none none 0 0 load -1 -30 load 0 0"},
	{with(ev(group.Pick, 1, 0), ev(group.Hall, 0, 1), ev(group.Pick, 1, 0), ev(group.Hall, 0, 1)), "none none 0 0 pick 1 hall 1 pick 1 hall 1"},
	{
		group.In{Gen: true, Capacity: 500, Blocked: 3, Events: []group.Event{
			ev(0, 0, 2), ev(1, 0, 1), ev(2, 1, 30), ev(3, 1, 0), ev(4, 1, 0), ev(5, 0, 0), ev(6, 0, -4),
		}},
		"none gen 500 3 hall 2 call 0 1 load 1 30 fault 1 reset 1 pick 0 restart -4",
	},
}

func TestPut(t *testing.T) {
	for _, p := range puts {
		if got := script.Put(p.in); got != p.line {
			t.Errorf("Put(%v): %q, want %q", p.in, got, p.line)
		}
	}
	if got := script.Put(group.In{Events: []group.Event{}}); got != "none none 0 0" {
		t.Errorf("Put of an empty list: %q", got)
	}
}

func TestPutTellsNothingThatAKindDoesNotHave(t *testing.T) {
	in := with(ev(group.Hall, 7, 2), ev(group.Fault, 1, 7), ev(group.Reset, 2, 7), ev(group.Pick, 3, 7), ev(group.Restart, 7, 4))
	if got := script.Put(in); got != "none none 0 0 hall 2 fault 1 reset 2 pick 3 restart 4" {
		t.Error(got)
	}
}

func TestPutPassesOverOtherKinds(t *testing.T) {
	for _, kind := range []int{least, -1 << 32, -256, -7, -2, -1, 7, 8, 13, 256, 1 << 32, 1<<32 + 1, greatest} {
		in := with(ev(kind, 1, 2))
		if got := script.Put(in); got != "none none 0 0" {
			t.Errorf("kind %d: %q", kind, got)
		}
		in = with(ev(group.Hall, 0, 1), ev(kind, 1, 2), ev(kind, 1, 2), ev(group.Pick, 2, 0))
		if got := script.Put(in); got != "none none 0 0 hall 1 pick 2" {
			t.Errorf("kind %d among others: %q", kind, got)
		}
	}
}

func TestPutLeavesWhatItIsGiven(t *testing.T) {
	in := with(ev(group.Hall, 7, 2), ev(9, 1, 2), ev(group.Call, 1, 2))
	was := slices.Clone(in.Events)
	for range 100 {
		if got := script.Put(in); got != "none none 0 0 hall 2 call 1 2" {
			t.Fatal(got)
		}
	}
	if !slices.Equal(in.Events, was) {
		t.Error(in.Events)
	}
}

func TestParse(t *testing.T) {
	for _, p := range puts {
		if got := parsed(t, p.line); !same(got, p.in) {
			t.Errorf("Parse(%q): %v, want %v", p.line, got, p.in)
		}
	}
}

func TestParseTellsWhatAKindDoesNotHaveAsZero(t *testing.T) {
	in := parsed(t, "none none 0 0 load 5 6 hall 2 load 5 6 fault 1 load 5 6 reset 2 load 5 6 pick 3 load 5 6 restart 4")
	for _, e := range in.Events {
		switch e.Kind {
		case group.Hall, group.Restart:
			if e.Car != 0 {
				t.Error(e)
			}
		case group.Fault, group.Reset, group.Pick:
			if e.N != 0 {
				t.Error(e)
			}
		}
	}
	if len(in.Events) != 10 {
		t.Error(in.Events)
	}
}

func TestParseRefusesWhatIsNoLine(t *testing.T) {
	for _, line := range []string{
		"", " ", "  ", "    ", "0", "mains", "mains gen", "mains gen 1", "mains gen 1 ", "mains  1 2", " gen 1 2", "gen 1 2", "mains 1 2",
		"mains on 1 2", "on gen 1 2", "gen gen 1 2", "mains mains 1 2", "gen mains 1 2", "Mains gen 1 2", "mains GEN 1 2", "main gen 1 2", "mainsgen 1 2", "nonegen 1 2",
		"mains gen 1 2 ", " mains gen 1 2", "mains  gen 1 2", "mains gen  1 2", "mains gen 1  2", "mains gen 1 2  hall 1", "mains gen 1 2 hall  1", "mains gen 1 2 hall 1 ",
		"mains\tgen 1 2", "mains gen 1\t2", "mains gen 1 2\n", "mains gen 1 2\r", "\nmains gen 1 2", "mains gen 1\n2", "mains,gen,1,2", "mains gen 1 2\x00", "mains gen 1\u00a02", "mains\u2003gen 1 2",
		"mains gen x 2", "mains gen 1 x", "mains gen - 2", "mains gen 1 -", "mains gen + 2", "mains gen 1.0 2", "mains gen 1e1 2", "mains gen 0x1 2", "mains gen 1_0 2", "mains gen 1 1_0", "mains gen \u0661 2", "mains gen 1 \uff12",
		"mains gen 1 2 3", "mains gen 1 2 hall", "mains gen 1 2 call", "mains gen 1 2 call 0", "mains gen 1 2 load 0", "mains gen 1 2 fault", "mains gen 1 2 reset", "mains gen 1 2 pick", "mains gen 1 2 restart",
		"mains gen 1 2 hall 1 1", "mains gen 1 2 call 0 1 1", "mains gen 1 2 load 0 1 1", "mains gen 1 2 fault 0 1", "mains gen 1 2 reset 0 1", "mains gen 1 2 pick 0 1", "mains gen 1 2 restart 0 1",
		"mains gen 1 2 stop 0", "mains gen 1 2 Hall 0", "mains gen 1 2 hal 0", "mains gen 1 2 halls 0", "mains gen 1 2 mains", "mains gen 1 2 none", "mains gen 1 2 hall hall", "mains gen 1 2 hall call 0 1", "mains gen 1 2 call 0 hall 1",
		"mains gen 1 2 hall 1 stop 0", "mains gen 1 2 stop 0 hall 1", "mains gen 1 2 hall1", "mains gen 1 2hall 1", "mains gen 1 2 call 0, 1", "mains gen 1 2 pick 0;",
	} {
		refused(t, line, api.ErrForm)
	}
}

func TestParseRefusesNumbersThatAreNone(t *testing.T) {
	bad := []string{
		"", "-", "+", "x", "1x", "x1", "--1", "-+1", "1-", "+0", "+1", "-0", "-00", "00", "01", "-01", "007", "0-1", "1.", ".1", "1e3", "0x1", "0b1", "0o1", "1_0", "_1", "1,0", "\u0661", "'1'", "0 ", "Inf", "NaN",
		"9223372036854775808", "-9223372036854775809", "18446744073709551615", "18446744073709551616", "-18446744073709551615", "99999999999999999999", "-99999999999999999999", strings.Repeat("9", 400), "-" + strings.Repeat("9", 400), strings.Repeat("0", 400),
	}
	for _, n := range bad {
		for _, line := range []string{
			"mains gen " + n + " 2", ahead + " hall " + n, ahead + " call " + n + " 1", ahead + " call 1 " + n, ahead + " load " + n + " 1", ahead + " load 1 " + n,
			ahead + " fault " + n, ahead + " reset " + n, ahead + " pick " + n, ahead + " restart " + n,
		} {
			refused(t, line, api.ErrForm)
		}
	}
}

func TestParseRefusesOtherBlockedNumbers(t *testing.T) {
	for _, n := range []string{
		"", "-", "-1", "-0", "+0", "+1", "00", "01", "-9223372036854775808", "18446744073709551616", "18446744073709551617", "36893488147419103232", "99999999999999999999", strings.Repeat("9", 400), "0x1", "1_0", "1.", "x",
	} {
		refused(t, "mains gen 1 "+n, api.ErrForm)
		refused(t, "mains gen 1 "+n+" hall 1", api.ErrForm)
	}
	for _, n := range []uint64{0, 1, 9, 10, 1 << 31, 1 << 32, 1<<63 - 1, 1 << 63, 1<<63 + 1, widest - 1, widest} {
		if in := parsed(t, "mains gen 1 "+strconv.FormatUint(n, 10)); in.Blocked != n {
			t.Errorf("%d: %v", n, in)
		}
	}
}

// long is a line of a number of bytes, from 30 on, of events of floors that there may or may not be.
func long(bytes int) string {
	const one = " hall 0"
	left := bytes - len(ahead)
	last := len(one) + left%len(one)
	return ahead + strings.Repeat(one, left/len(one)-1) + " hall 1" + strings.Repeat("0", last-len(one))
}

func TestParseRefusesWhatIsTooLong(t *testing.T) {
	for _, bytes := range []int{30, 31, 2048, 4090, 4095, 4096} {
		line := long(bytes)
		if in := parsed(t, line); len(line) != bytes || script.Put(in) != line {
			t.Errorf("a line of %d bytes isn't parsed as it is", bytes)
		}
		refused(t, line[:bytes-1]+" ", api.ErrForm)
		refused(t, strings.Repeat("x", bytes), api.ErrForm)
		refused(t, strings.Repeat(" ", bytes), api.ErrForm)
	}
	for _, bytes := range []int{4097, 4098, 4100, 4111, 8192, 1 << 16, 1<<16 + 4096, 1 << 20} {
		refused(t, long(bytes), api.ErrBig)
		// That it is too long is told, whatever else it is.
		refused(t, strings.Repeat("x", bytes), api.ErrBig)
		refused(t, strings.Repeat("\x00", bytes), api.ErrBig)
	}
}

func TestParseCountsBytes(t *testing.T) {
	refused(t, strings.Repeat("\u20ac", 1366), api.ErrBig)
	refused(t, strings.Repeat("\u20ac", 1365), api.ErrForm)
}

func TestParseIsNewMemory(t *testing.T) {
	a, b := parsed(t, "none none 0 0 hall 1 call 1 2"), parsed(t, "none none 0 0 hall 1 call 1 2")
	a.Events[0].N = 9
	a.Events = append(a.Events, ev(group.Pick, 1, 0))
	if want := []group.Event{ev(group.Hall, 0, 1), ev(group.Call, 1, 2)}; !slices.Equal(b.Events, want) {
		t.Error(b.Events)
	}
}

const (
	anInt   = `(?:0|-?[1-9][0-9]*)`
	someInt = ` ` + anInt
)

var (
	aLine  = regexp.MustCompile(`^(?:mains|none) (?:gen|none)` + someInt + ` (?:0|[1-9][0-9]*)(?: (?:hall|fault|reset|pick|restart)` + someInt + `| (?:call|load)` + someInt + someInt + `)*$`)
	anyInt = regexp.MustCompile(anInt)
)

// isLine tells whether a text is a line, as the chapter's words tell it, by means that the program doesn't use.
func isLine(line string) bool {
	if !aLine.MatchString(line) {
		return false
	}
	for i, text := range anyInt.FindAllString(line, -1) {
		n, _ := new(big.Int).SetString(text, 10)
		if i == 1 && !n.IsUint64() || i != 1 && !n.IsInt64() {
			return false
		}
	}
	return true
}

// pieces are put in the place of others, or between them.
var pieces = []string{"", " ", "0", "-", "1", "9", "00", "none", "gen", "mains", "hall", "call", "load", "fault", "reset", "pick", "restart", "stop", "9223372036854775808", "-9223372036854775808", "\x00", "\n", "+", "x"}

// spoilt is a line with a piece of it another one, or gone, or a word of it twice, or elsewhere.
func spoilt(c *chance, line string) string {
	if c.below(2) == 0 {
		at := c.below(len(line) + 1)
		to := min(at+c.below(3), len(line))
		return line[:at] + pieces[c.below(len(pieces))] + line[to:]
	}
	words := strings.Split(line, " ")
	at, other := c.below(len(words)), c.below(len(words))
	switch c.below(4) {
	case 0:
		words = slices.Delete(words, at, at+1)
	case 1:
		words = slices.Insert(words, at, words[other])
	case 2:
		words[at], words[other] = words[other], words[at]
	default:
		words[at] = pieces[c.below(len(pieces))]
	}
	return strings.Join(words, " ")
}

func TestParseTakesLinesAlone(t *testing.T) {
	c := &chance{seed: 24}
	var lines, others int
	for range 60000 {
		line := script.Put(c.tick())
		for range c.below(4) {
			line = spoilt(c, line)
		}
		if !isLine(line) {
			others++
			refused(t, line, api.ErrForm)
			continue
		}
		lines++
		if in := parsed(t, line); script.Put(in) != line {
			t.Errorf("%q is put as %q", line, script.Put(in))
		}
	}
	if lines < 10000 || others < 10000 {
		t.Errorf("%d lines, %d others", lines, others)
	}
}

// P24.2

// shownAs is a world's line, as the promise's words tell it.
func shownAs(w *group.World) string {
	line := fmt.Sprintf("mode %d at %d power %d drawn %d", w.Mode(), w.At(), w.Power(), w.Drawn())
	for _, s := range w.Cars() {
		names := []string{"normal", "stalled", "recall", "parked", "serving", "out"}
		line += fmt.Sprintf(" car %s %d %d %d %d", names[s.Phase], s.Pos, s.Vel, s.Open, s.Job)
	}
	return line
}

func TestShowOfANewWorld(t *testing.T) {
	w, err := group.New(plain())
	if err != api.OK {
		t.Fatal(err)
	}
	for range 3 {
		if got := script.Show(w); got != "mode 0 at 1 power 0 drawn 0 car normal 0 0 2 -1 car normal 0 0 2 -1" {
			t.Error(got)
		}
	}
}

func TestShowOfNone(t *testing.T) {
	if got := script.Show(nil); got != "" {
		t.Error(got)
	}
	if got := script.Show(new(group.World)); got != "mode 0 at 0 power 0 drawn 0" {
		t.Errorf("of a world without cars: %q", got)
	}
}

// outage is a call, mains that fail, a recall, a car that serves, one that is out of order, and mains that come back.
func outage() []string {
	line := func(many int, line string) []string { return slices.Repeat([]string{line}, many) }
	return slices.Concat(
		line(1, "mains none 0 0 call 1 1 load 0 20"),
		line(6, "mains none 0 0"),
		line(1, "none gen 500 0 call 0 2 hall 1"),
		line(50, "none gen 500 0"),
		line(1, "none gen 500 1 fault 1"),
		line(20, "none gen 500 0"),
		line(1, "none gen 500 0 reset 1 restart 3"),
		line(20, "none gen 500 0"),
		line(40, "mains gen 500 0"),
	)
}

func TestShowFollowsAWorld(t *testing.T) {
	w, _ := group.New(plain())
	phases := map[string]bool{}
	for i, line := range outage() {
		w.Tick(parsed(t, line))
		got := script.Show(w)
		if want := shownAs(w); got != want {
			t.Fatalf("tick %d: %q, want %q", i, got, want)
		}
		for p := range 6 {
			phases[phase.Name(p)] = phases[phase.Name(p)] || strings.Contains(got, " car "+phase.Name(p)+" ")
		}
	}
	for name, seen := range phases {
		if !seen {
			t.Errorf("no car was %s: the test tells too little", name)
		}
	}
}

func TestPlay(t *testing.T) {
	for _, c := range []struct {
		lines, want []string
	}{
		{nil, nil},
		{[]string{"mains none 0 0"}, []string{"mode 0 at 1 power 1 drawn 0 car normal 0 0 2 -1 car normal 0 0 2 -1"}},
		{
			[]string{"mains none 0 0", "mains none 0 0 call 1 1"},
			[]string{
				"mode 0 at 1 power 1 drawn 0 car normal 0 0 2 -1 car normal 0 0 2 -1",
				"mode 0 at 1 power 1 drawn 3 car normal 0 0 2 -1 car normal 0 0 1 1",
			},
		},
		{
			// Mains fail as a car goes: it is braked, and stands between floors; the switch goes over.
			[]string{"mains none 0 0 call 1 2", "mains none 0 0", "mains none 0 0", "none gen 500 0", "none gen 500 0", "none gen 500 0", "none gen 500 0 fault 0"},
			[]string{
				"mode 0 at 1 power 1 drawn 3 car normal 0 0 2 -1 car normal 0 0 1 2",
				"mode 0 at 1 power 1 drawn 3 car normal 0 0 2 -1 car normal 0 0 0 2",
				"mode 0 at 1 power 1 drawn 10 car normal 0 0 2 -1 car normal 1 1 0 2",
				"mode 0 at 1 power 0 drawn 0 car normal 0 0 2 -1 car normal 1 0 0 2",
				"mode 1 at 0 power 0 drawn 0 car stalled 0 0 2 -1 car stalled 1 0 0 -1",
				"mode 1 at 0 power 0 drawn 0 car stalled 0 0 2 -1 car stalled 1 0 0 -1",
				"mode 1 at 2 power 0 drawn 0 car out 0 0 2 -1 car stalled 1 0 0 -1",
			},
		},
	} {
		got, err := script.Play(plain(), c.lines...)
		if err != api.OK || !slices.Equal(got, c.want) {
			t.Errorf("%q:\n%s\nerror %d, want\n%s", c.lines, strings.Join(got, "\n"), err, strings.Join(c.want, "\n"))
		}
	}
}

func TestPlayIsATickALine(t *testing.T) {
	lines := outage()
	was := slices.Clone(lines)
	w, _ := group.New(plain())
	var want []string
	for _, line := range lines {
		w.Tick(parsed(t, line))
		want = append(want, shownAs(w))
	}
	for range 2 { // each time of a new world
		got, err := script.Play(plain(), lines...)
		if err != api.OK || !slices.Equal(got, want) {
			t.Errorf("error %d, or lines that aren't a world's", err)
		}
		clear(got)
	}
	if !slices.Equal(lines, was) {
		t.Error("the lines that were handed in were changed")
	}
	for many := range lines {
		got, err := script.Play(plain(), lines[:many]...)
		if err != api.OK || !slices.Equal(got, want[:many]) {
			t.Errorf("%d lines: error %d, or lines that aren't a world's", many, err)
		}
	}
}

func TestPlayLeavesTheGroup(t *testing.T) {
	c := plain()
	script.Play(c, outage()...)
	if !reflect.DeepEqual(c, plain()) {
		t.Error(c)
	}
}

func TestPlayOfOtherGroups(t *testing.T) {
	c := plain()
	c.Banks = append(c.Banks, conf.Bank{Cars: 1, Rates: c.Banks[0].Rates})
	c.Order = []int{2, 0, 1}
	c.Width = 3
	got, err := script.Play(c, "none none 0 0 hall 1")
	if want := "mode 0 at 1 power 0 drawn 0 car normal 0 0 3 -1 car normal 0 0 3 -1 car normal 0 0 3 -1"; err != api.OK || !slices.Equal(got, []string{want}) {
		t.Error(got, err)
	}
}

func TestPlayRefuses(t *testing.T) {
	const good = "mains none 0 0"
	wrong := plain()
	wrong.Floors = 0
	twice := plain()
	twice.Order = []int{0, 0}
	big := strings.Repeat("x", 4097)
	for _, c := range []struct {
		conf  conf.Conf
		lines []string
		want  api.Errno
	}{
		{conf.Conf{}, nil, api.ErrArg},
		{wrong, nil, api.ErrArg},
		{twice, []string{good}, api.ErrArg},
		// Of a group that may not be no line is looked at.
		{conf.Conf{}, []string{"x"}, api.ErrArg},
		{wrong, []string{big}, api.ErrArg},
		{plain(), []string{"x"}, api.ErrForm},
		{plain(), []string{""}, api.ErrForm},
		{plain(), []string{big}, api.ErrBig},
		{plain(), []string{good, "x"}, api.ErrForm},
		{plain(), []string{"x", good}, api.ErrForm},
		{plain(), []string{good, good, good + " ", good}, api.ErrForm},
		{plain(), []string{good, big, good}, api.ErrBig},
		// The first line's error is told.
		{plain(), []string{good, big, "x"}, api.ErrBig},
		{plain(), []string{good, "x", big}, api.ErrForm},
	} {
		got, err := script.Play(c.conf, c.lines...)
		if err != c.want || got != nil {
			t.Errorf("%.40q: %q, error %d, want %d", c.lines, got, err, c.want)
		}
	}
}

func TestPlayTakesEventsThatAreRefused(t *testing.T) {
	lines := []string{"mains none 0 0 hall 99 call 5 1 load 0 65 reset 0 pick 1 fault -1", "mains none -5 18446744073709551615"}
	got, err := script.Play(plain(), lines...)
	still := "mode 0 at 1 power 1 drawn 0 car normal 0 0 2 -1 car normal 0 0 2 -1"
	if err != api.OK || !slices.Equal(got, []string{still, still}) {
		t.Error(got, err)
	}
}

// P24.3

// kept is what is left of a tick that is put: no event of another Kind, and nothing that an event's kind doesn't have.
func kept(in group.In) group.In {
	var events []group.Event
	for _, e := range in.Events {
		switch e.Kind {
		case group.Hall, group.Restart:
			events = append(events, ev(e.Kind, 0, e.N))
		case group.Call, group.Load:
			events = append(events, e)
		case group.Fault, group.Reset, group.Pick:
			events = append(events, ev(e.Kind, e.Car, 0))
		}
	}
	in.Events = events
	return in
}

func TestWhatIsPutIsParsedAsItWas(t *testing.T) {
	c := &chance{seed: 3}
	for range 20000 {
		in := c.tick()
		line := script.Put(in)
		if !isLine(line) {
			t.Fatalf("%v is put as %q, which is no line", in, line)
		}
		if got := parsed(t, line); !same(got, kept(in)) {
			t.Fatalf("%q is parsed as %v, and was %v", line, got, in)
		}
	}
}

func TestNumbersArePutAndParsedAsTheyWere(t *testing.T) {
	for kind := group.Hall; kind <= group.Restart; kind++ {
		for _, car := range edges {
			for _, n := range edges {
				in := group.In{Capacity: n, Blocked: uint64(car), Events: []group.Event{ev(kind, car, n)}}
				if got := parsed(t, script.Put(in)); !same(got, kept(in)) {
					t.Errorf("%v is parsed as %v", in, got)
				}
			}
		}
	}
}

func TestLinesBehindWhichAWorldIsTheSame(t *testing.T) {
	c := &chance{seed: 7}
	for range 50 {
		w, _ := group.New(plain())
		var lines, want []string
		for range 60 {
			in := c.tick()
			for i := range in.Events { // mostly of cars and floors that there are
				in.Events[i].Car, in.Events[i].N = c.below(3), c.below(4)
			}
			w.Tick(in)
			lines, want = append(lines, script.Put(in)), append(want, shownAs(w))
		}
		if got, err := script.Play(plain(), lines...); err != api.OK || !slices.Equal(got, want) {
			t.Fatalf("error %d, or a world that goes on otherwise", err)
		}
	}
}

func FuzzParse(f *testing.F) {
	for _, p := range puts {
		f.Add(p.line)
	}
	f.Add("mains gen 01 2")
	f.Add(long(4096))
	f.Add(long(4097))
	f.Fuzz(func(t *testing.T, line string) {
		in, err := script.Parse(line)
		switch {
		case len(line) > 4096 && err != api.ErrBig:
			t.Errorf("error %d", err)
		case len(line) <= 4096 && isLine(line) != (err == api.OK):
			t.Errorf("%q: error %d", line, err)
		case err == api.OK && script.Put(in) != line:
			t.Errorf("%q is put as %q", line, script.Put(in))
		case err != api.OK && !reflect.DeepEqual(in, group.In{}):
			t.Errorf("%q: %v beside error %d", line, in, err)
		}
	})
}
