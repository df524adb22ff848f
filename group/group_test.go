package group_test

import (
	"bytes"
	"math"
	"slices"
	"testing"

	"paternoster/api"
	"paternoster/conf"
	"paternoster/feed"
	"paternoster/group"
	"paternoster/journal"
	"paternoster/ledger"
	"paternoster/phase"
	"paternoster/rates"
)

const (
	least    = math.MinInt
	greatest = math.MaxInt
	ample    = 500 // a capacity that bears any one car of plain groups
)

// rates0 are rates of which each draw is told from all others.
var rates0 = rates.Rates{Idle: 1, Move: 4, Gain: 5, Pull: 1, Door: 3, Weight: 10}

// plain is a group of two cars, without batteries.
func plain() conf.Conf {
	return conf.Conf{
		Banks:  []conf.Bank{{Cars: 2, Rates: rates0}},
		Floors: 3, Order: []int{1, 0}, Speed: 2, Width: 2, Dwell: 1, Good: 2, Dead: 2, Turn: 5, Cost: 1,
	}
}

// changed is a plain group, but for what is changed of it.
func changed(change func(c *conf.Conf)) conf.Conf {
	c := plain()
	change(&c)
	return c
}

// ev is an event.
func ev(kind, car, n int) group.Event { return group.Event{Kind: kind, Car: car, N: n} }

// calm is a tick in which mains are there.
func calm(events ...group.Event) group.In { return group.In{Mains: true, Events: events} }

// dark is a tick in which only the generator is there.
func dark(events ...group.Event) group.In {
	return group.In{Gen: true, Capacity: ample, Events: events}
}

// both is a tick in which mains and the generator are there.
func both(events ...group.Event) group.In {
	in := dark(events...)
	in.Mains = true
	return in
}

// ticks are as many ticks.
func ticks(w *group.World, many int, in group.In) {
	for range many {
		w.Tick(in)
	}
}

// told tells of events of a tick that became something else.
func told(t *testing.T, w *group.World, in group.In, want ...api.Errno) {
	t.Helper()
	if got := w.Tick(in); !slices.Equal(got, want) {
		t.Fatalf("%+v: Tick = %v, want %v", in, got, want)
	}
}

// looks tells of a car that looks otherwise; its load and its battery are looked at elsewhere.
func looks(t *testing.T, w *group.World, car, phase, pos, vel, open, job int) {
	t.Helper()
	s := w.Cars()[car]
	got, want := []int{s.Phase, s.Pos, s.Vel, s.Open, s.Job}, []int{phase, pos, vel, open, job}
	if !slices.Equal(got, want) {
		t.Fatalf("car %d: Phase, Pos, Vel, Open, Job = %v, want %v", car, got, want)
	}
}

// is tells of a world whose mode, switch and power are others.
func is(t *testing.T, w *group.World, mode, at, power int) {
	t.Helper()
	got, want := []int{w.Mode(), w.At(), w.Power()}, []int{mode, at, power}
	if !slices.Equal(got, want) {
		t.Fatalf("Mode, At, Power = %v, want %v", got, want)
	}
}

// permits tells of a ledger whose budget, or permits, are others.
func permits(t *testing.T, w *group.World, budget int, want ...ledger.Permit) {
	t.Helper()
	if l := w.Ledger(); !sameLedger(l, ledger.Ledger{Budget: budget, L: want}) {
		t.Fatalf("Ledger = %+v, want %d and %+v", l, budget, want)
	}
}

// waits tells of calls that are others.
func waits(t *testing.T, w *group.World, halls uint32, cars ...uint32) {
	t.Helper()
	if c := w.Calls(); c.Halls != halls || !slices.Equal(c.Cars, cars) {
		t.Fatalf("Calls = %+v, want %v and %v", c, halls, cars)
	}
}

// borne is a world of a plain group behind the first tick in which the generator bears it, car 1 being recalled where it stands.
func borne(t *testing.T, c conf.Conf) *group.World {
	t.Helper()
	w := begun(t, c)
	ticks(w, 5, dark())
	looks(t, w, 1, phase.Recall, 0, 0, 2, 0)
	return w
}

// served is a world of a plain group behind the first tick in which a car serves: car 0.
func served(t *testing.T, c conf.Conf) *group.World {
	t.Helper()
	w := borne(t, c)
	ticks(w, 4, dark())
	looks(t, w, 0, phase.Serving, 0, 0, 2, -1)
	looks(t, w, 1, phase.Parked, 0, 0, 2, -1)
	return w
}

// P23.1

func TestNew(t *testing.T) {
	c := plain()
	c.Banks = []conf.Bank{{Cars: 2, Rates: rates0}, {Cars: 1, Rates: rates.Rates{}}}
	c.Order, c.Full, c.Width = []int{2, 1, 0}, 77, 5
	w := begun(t, c)
	want := group.Seen{Phase: phase.Normal, Open: 5, Have: 77, Job: -1}
	if got := w.Cars(); !slices.Equal(got, []group.Seen{want, want, want}) {
		t.Errorf("Cars = %+v", got)
	}
	is(t, w, group.Normal, feed.Mains, feed.None)
	permits(t, w, 0)
	waits(t, w, 0, 0, 0, 0)
	if w.Drawn() != 0 || w.Serves() != -1 {
		t.Errorf("Drawn = %d, Serves = %d", w.Drawn(), w.Serves())
	}
	if s := w.Slots(); len(s) != 2 || len(s[0]) != 0 || len(s[1]) != 0 {
		t.Errorf("Slots = %v", s)
	}
}

func TestNewOfGroupsThatMayNotBe(t *testing.T) {
	for i, change := range []func(c *conf.Conf){
		func(c *conf.Conf) { *c = conf.Conf{} },
		func(c *conf.Conf) { c.Banks = nil },
		func(c *conf.Conf) { c.Banks[0].Cars = 0 },
		func(c *conf.Conf) { c.Banks[0].Cars = least },
		func(c *conf.Conf) { c.Banks[0].Rates.Pull = 101 },
		func(c *conf.Conf) { c.Floors = 1 },
		func(c *conf.Conf) { c.Floors = 33 },
		func(c *conf.Conf) { c.Home = 3 },
		func(c *conf.Conf) { c.Home = -1 },
		func(c *conf.Conf) { c.Order = []int{0} },
		func(c *conf.Conf) { c.Order = []int{0, 0} },
		func(c *conf.Conf) { c.Order = []int{0, 1, 2} },
		func(c *conf.Conf) { c.Speed = 0 },
		func(c *conf.Conf) { c.Width = 0 },
		func(c *conf.Conf) { c.Dwell = 201 },
		func(c *conf.Conf) { c.Good = 0 },
		func(c *conf.Conf) { c.Dead = 0 },
		func(c *conf.Conf) { c.Lag = 9 },
		func(c *conf.Conf) { c.Turn = greatest },
		func(c *conf.Conf) { c.Cost = -1 },
		func(c *conf.Conf) { c.Full = 1<<20 + 1 },
	} {
		if w, err := group.New(changed(change)); w != nil || err != api.ErrArg {
			t.Errorf("%d: New = %v, %v", i, w, err)
		}
	}
	// The greatest one that may be.
	c := plain()
	c.Banks, c.Order = slices.Repeat([]conf.Bank{{Cars: 8, Rates: rates0}}, 8), nil
	for i := range 64 {
		c.Order = append(c.Order, 63-i)
	}
	w := begun(t, c)
	told(t, w, calm(ev(group.Call, 63, 2), ev(group.Call, 64, 2), ev(group.Load, 63, 64), ev(group.Load, 64, 0)), api.OK, api.ErrNone, api.OK, api.ErrNone)
	looks(t, w, 63, phase.Normal, 0, 0, 1, 2)
}

func TestNil(t *testing.T) {
	var w *group.World
	if l := w.Tick(calm(ev(group.Hall, 0, 1))); len(l) != 0 {
		t.Errorf("Tick = %v", l)
	}
	if len(w.Cars()) != 0 || w.Mode() != 0 || w.At() != 0 || w.Power() != 0 || w.Drawn() != 0 || w.Serves() != -1 || len(w.Slots()) != 0 {
		t.Error("something is told of nil")
	}
	permits(t, w, 0)
	waits(t, w, 0)
}

func TestOneThatWasNotMade(t *testing.T) {
	w := &group.World{}
	for _, in := range []group.In{calm(), dark(), both(), {}} {
		for kind := -1; kind <= 8; kind++ {
			in.Events = append(in.Events, ev(kind, 0, 0), ev(kind, -1, -1), ev(kind, 5, 5))
		}
		ticks(w, 20, in)
	}
	if len(w.Cars()) != 0 || w.Drawn() != 0 {
		t.Error("there are cars")
	}
	w.Slots()
	w.Serves()
}

func TestWhatIsToldIsNewMemory(t *testing.T) {
	c := plain()
	w := begun(t, c)
	c.Banks[0], c.Order[0], c.Order[1] = conf.Bank{}, -7, -7
	in := dark(ev(group.Hall, 0, 2), ev(group.Call, 0, 1))
	w.Tick(in)
	in.Events[0], in.Events[1] = ev(group.Restart, 0, 0), ev(group.Fault, 1, 0)
	in.Events = nil
	ticks(w, 4, dark())
	looks(t, w, 1, phase.Recall, 0, 0, 2, 0)
	seen, books, waiting, slots := w.Cars(), w.Ledger(), w.Calls(), w.Slots()
	seen[0], books.L[0], waiting.Cars[0] = group.Seen{Pos: 99}, ledger.Permit{Car: 9, Peak: 9}, 99
	clear(slots[1])
	slots[0] = []byte{1}
	looks(t, w, 0, phase.Stalled, 0, 0, 2, -1)
	permits(t, w, ample, ledger.Permit{Car: 1, Peak: 3})
	waits(t, w, 4, 2, 0)
	if s := w.Slots(); len(s[0]) != 0 || bytes.Equal(s[1], make([]byte, len(s[1]))) {
		t.Errorf("Slots = %v", s)
	}
	// What was told stays as it was told, whatever happens then.
	told := w.Ledger()
	ticks(w, 10, dark())
	if !sameLedger(told, ledger.Ledger{Budget: ample, L: []ledger.Permit{{Car: 1, Peak: 3}}}) {
		t.Errorf("the ledger that was told became %+v", told)
	}
}

func TestEventsThatAreHandedInStay(t *testing.T) {
	in := calm(ev(group.Call, 0, 1), ev(9, 9, 9), ev(group.Load, 1, 5))
	want := slices.Clone(in.Events)
	w := begun(t, plain())
	errs := w.Tick(in)
	if !slices.Equal(in.Events, want) {
		t.Errorf("%v became %v", want, in.Events)
	}
	w.Tick(calm(ev(9, 9, 9), ev(9, 9, 9), ev(9, 9, 9)))
	if !slices.Equal(errs, []api.Errno{api.OK, api.ErrNone, api.OK}) {
		t.Errorf("what was told became %v", errs)
	}
}

// P23.2

func TestEventsOfWhatThereIsNot(t *testing.T) {
	w := begun(t, plain())
	for _, kind := range []int{least, -1, 7, 8, 256, 1 << 32, greatest} {
		told(t, w, calm(ev(kind, 0, 0)), api.ErrNone)
	}
	for _, car := range []int{least, -1 << 32, -1, 2, 3, 63, 64, 256, 1 << 32, greatest} {
		for _, kind := range []int{group.Call, group.Load, group.Fault, group.Reset, group.Pick} {
			told(t, w, calm(ev(kind, car, 0)), api.ErrNone)
		}
		// A load that may not be, of a car that there isn't.
		told(t, w, calm(ev(group.Load, car, 65)), api.ErrNone)
		// These are no car's.
		told(t, w, calm(ev(group.Hall, car, 0)), api.OK)
	}
	for _, floor := range []int{least, -1 << 32, -1, 3, 4, 31, 32, 64, 256, 1 << 32, greatest} {
		told(t, w, calm(ev(group.Hall, 0, floor), ev(group.Call, 1, floor)), api.ErrNone, api.ErrNone)
	}
	waits(t, w, 0, 0, 0)
	looks(t, w, 0, phase.Normal, 0, 0, 2, -1)
}

func TestEventsComeInOrder(t *testing.T) {
	w := begun(t, plain())
	told(t, w, calm())
	told(t, w, calm(
		ev(group.Load, 0, 7), ev(group.Fault, 0, 0), ev(group.Pick, 0, 0), ev(group.Reset, 0, 0), ev(group.Reset, 0, 0),
		ev(group.Pick, 0, 0), ev(group.Fault, 1, 9), ev(group.Fault, 1, 9), ev(group.Load, 0, 8), ev(8, 0, 0), ev(group.Hall, 0, 2),
	), api.OK, api.OK, api.ErrFault, api.OK, api.ErrState, api.ErrState, api.OK, api.OK, api.OK, api.ErrNone, api.OK)
	looks(t, w, 0, phase.Normal, 0, 0, 1, 2)
	looks(t, w, 1, phase.Out, 0, 0, 2, -1)
	if n := w.Cars()[0].Load; n != 8 {
		t.Errorf("Load = %d", n)
	}
}

func TestHallAndCall(t *testing.T) {
	// Nobody goes without mains: what was told can be seen.
	w := begun(t, plain())
	told(t, w, dark(ev(group.Hall, 0, 0), ev(group.Hall, 7, 2), ev(group.Call, 0, 1), ev(group.Call, 1, 2), ev(group.Call, 1, 0)), api.OK, api.OK, api.OK, api.OK, api.OK)
	waits(t, w, 5, 2, 5)
	// Told again they are the same; a car that is out of order is called, too.
	told(t, w, dark(ev(group.Hall, 0, 0), ev(group.Call, 0, 1), ev(group.Fault, 0, 0), ev(group.Call, 0, 2)), api.OK, api.OK, api.OK, api.OK)
	waits(t, w, 5, 6, 5)
}

func TestLoad(t *testing.T) {
	w := begun(t, plain())
	for _, n := range []int{least, -1 << 32, -1, 65, 128, 256, 1 << 32, greatest} {
		told(t, w, calm(ev(group.Load, 0, n)), api.ErrArg)
	}
	for _, n := range []int{64, 0, 30} {
		told(t, w, calm(ev(group.Load, 0, n)), api.OK)
		if s := w.Cars(); s[0].Load != n || s[1].Load != 0 {
			t.Fatalf("%d: %+v", n, s)
		}
	}
	// Its doors are wide, but it has a job.
	in := calm(ev(group.Call, 0, 1))
	in.Blocked = 1
	told(t, w, in, api.OK)
	looks(t, w, 0, phase.Normal, 0, 0, 2, 1)
	told(t, w, calm(ev(group.Load, 0, 5), ev(group.Load, 0, 65)), api.ErrState, api.ErrArg)
	// It has none, and is Level, but its doors are ajar.
	looks(t, w, 0, phase.Normal, 0, 0, 1, 1)
	told(t, w, calm(ev(group.Fault, 0, 0), ev(group.Load, 0, 5)), api.OK, api.ErrState)
	told(t, w, calm(ev(group.Reset, 0, 0)), api.OK)
	// It has none, and is between floors.
	ticks(w, 3, calm())
	if s := w.Cars()[0]; s.Pos == 0 || s.Open != 0 {
		t.Fatalf("%+v", s)
	}
	told(t, w, calm(ev(group.Fault, 0, 0), ev(group.Load, 0, 5)), api.OK, api.ErrState)
	told(t, w, calm(ev(group.Load, 0, 5)), api.ErrState)
	if n := w.Cars()[0].Load; n != 30 {
		t.Errorf("Load = %d", n)
	}
	// One that is out of order, but at a floor, bears what it is told to.
	told(t, w, calm(ev(group.Fault, 1, 0), ev(group.Load, 1, 9)), api.OK, api.OK)
	if n := w.Cars()[1].Load; n != 9 {
		t.Errorf("Load = %d", n)
	}
}

func TestFaultAndReset(t *testing.T) {
	w := begun(t, plain())
	told(t, w, calm(ev(group.Call, 0, 2), ev(group.Reset, 0, 0)), api.OK, api.ErrState)
	ticks(w, 3, calm())
	looks(t, w, 0, phase.Normal, 3, 2, 0, 2)
	// It still moves as it is told of; it is braked in this tick.
	told(t, w, calm(ev(group.Fault, 0, 0), ev(group.Reset, 0, 0)), api.OK, api.ErrState)
	looks(t, w, 0, phase.Out, 3, 0, 0, -1)
	ticks(w, 3, calm())
	looks(t, w, 0, phase.Out, 3, 0, 0, -1)
	told(t, w, calm(ev(group.Fault, 0, 0), ev(group.Reset, 1, 0)), api.OK, api.ErrState)
	told(t, w, calm(ev(group.Reset, 0, 0)), api.OK)
	looks(t, w, 0, phase.Normal, 2, -1, 0, 0)
	// In other modes it is Stalled.
	w = begun(t, plain())
	told(t, w, dark(ev(group.Fault, 0, 0)), api.OK)
	ticks(w, 1, dark())
	is(t, w, group.Lost, feed.None, feed.None)
	told(t, w, dark(ev(group.Reset, 0, 0)), api.OK)
	looks(t, w, 0, phase.Stalled, 0, 0, 2, -1)
	ticks(w, 10, dark())
	is(t, w, group.Gen, feed.Gen, feed.Gen)
	told(t, w, dark(ev(group.Fault, 0, 0), ev(group.Reset, 0, 0)), api.OK, api.OK)
	looks(t, w, 0, phase.Stalled, 0, 0, 2, -1)
	// In Normal, in the tick in which mains turn out to be gone: Normal first, Stalled then.
	w = begun(t, plain())
	ticks(w, 1, dark(ev(group.Fault, 0, 0)))
	told(t, w, dark(ev(group.Reset, 0, 0)), api.OK)
	looks(t, w, 0, phase.Stalled, 0, 0, 2, -1)
}

func TestPick(t *testing.T) {
	w := begun(t, plain())
	told(t, w, calm(ev(group.Pick, 0, 0)), api.ErrState)
	told(t, w, calm(ev(group.Fault, 0, 0), ev(group.Pick, 0, 0), ev(group.Reset, 0, 0)), api.OK, api.ErrFault, api.OK)
	ticks(w, 3, dark())
	is(t, w, group.Lost, feed.None, feed.None)
	told(t, w, dark(ev(group.Pick, 0, 0)), api.ErrState)
	ticks(w, 1, dark())
	// Car 1 is recalled, car 0 Stalled.
	looks(t, w, 1, phase.Recall, 0, 0, 2, 0)
	told(t, w, dark(ev(group.Pick, 0, 0), ev(group.Pick, 1, 0)), api.ErrState, api.ErrState)
	looks(t, w, 1, phase.Parked, 0, 0, 2, -1)
	// Nobody has a job; but as one is Stalled, and recalled in this tick, the turn is None again.
	told(t, w, dark(ev(group.Pick, 0, 0), ev(group.Pick, 1, 0)), api.ErrState, api.OK)
	looks(t, w, 0, phase.Recall, 0, 0, 2, 0)
	looks(t, w, 1, phase.Parked, 0, 0, 2, -1)
	if w.Serves() != -1 {
		t.Errorf("Serves = %d", w.Serves())
	}
	told(t, w, dark(ev(group.Pick, 1, 0)), api.ErrState)
	told(t, w, dark(ev(group.Pick, 1, 0)), api.OK)
	looks(t, w, 1, phase.Serving, 0, 0, 2, -1)
	if w.Serves() != 1 {
		t.Errorf("Serves = %d", w.Serves())
	}
	told(t, w, dark(ev(group.Pick, 0, 0)), api.OK)
	looks(t, w, 0, phase.Serving, 0, 0, 2, -1)
	looks(t, w, 1, phase.Parked, 0, 0, 2, -1)
}

func TestPickOfOneThatIsNotFree(t *testing.T) {
	w := served(t, plain())
	// Who serves may be picked, too: it serves as long as if it began.
	ticks(w, 3, dark())
	told(t, w, dark(ev(group.Pick, 0, 0)), api.OK)
	ticks(w, 3, dark())
	looks(t, w, 0, phase.Serving, 0, 0, 2, -1)
	told(t, w, dark())
	looks(t, w, 1, phase.Serving, 0, 0, 2, -1)
	// Busy: one has a job.
	told(t, w, dark(ev(group.Call, 1, 2)), api.OK)
	looks(t, w, 1, phase.Serving, 0, 0, 1, 2)
	told(t, w, dark(ev(group.Pick, 0, 0), ev(group.Pick, 1, 0), ev(group.Pick, 2, 0)), api.ErrState, api.ErrState, api.ErrNone)
	told(t, w, dark(ev(group.Fault, 0, 0), ev(group.Pick, 0, 0)), api.OK, api.ErrFault)
	if w.Serves() != 1 {
		t.Errorf("Serves = %d", w.Serves())
	}
	// In Back nobody is picked any more, though nobody has a job.
	w = served(t, plain())
	ticks(w, 2, both())
	is(t, w, group.Back, feed.None, feed.Gen)
	told(t, w, both(ev(group.Pick, 1, 0)), api.ErrState)
	if w.Serves() != 0 {
		t.Errorf("Serves = %d", w.Serves())
	}
}

func TestRestart(t *testing.T) {
	w := begun(t, plain())
	ticks(w, 4, calm(ev(group.Call, 0, 2)))
	told(t, w, calm(ev(group.Fault, 1, 0), ev(group.Restart, -9, least)), api.OK, api.OK)
	looks(t, w, 0, phase.Stalled, 3, 0, 0, -1)
	looks(t, w, 1, phase.Out, 0, 0, 2, -1)
	// The sense must find out anew that mains are good: in Good ticks, of which that was the first one.
	is(t, w, group.Lost, feed.Mains, feed.Mains)
	waits(t, w, 0, 4, 0)
	ticks(w, 1, calm())
	is(t, w, group.Normal, feed.Mains, feed.Mains)
	looks(t, w, 0, phase.Normal, 2, -1, 0, 0)
	looks(t, w, 1, phase.Out, 0, 0, 2, -1)
	// Good of 1: in the same tick.
	w = begun(t, changed(func(c *conf.Conf) { c.Good = 1 }))
	ticks(w, 4, calm(ev(group.Call, 0, 2)))
	told(t, w, calm(ev(group.Restart, 0, 0)), api.OK)
	is(t, w, group.Normal, feed.Mains, feed.Mains)
	// It still moved as jobs were given: it is braked, and given none.
	looks(t, w, 0, phase.Normal, 3, 0, 0, -1)
	looks(t, w, 1, phase.Normal, 0, 0, 2, -1)
	told(t, w, calm())
	looks(t, w, 0, phase.Normal, 2, -1, 0, 0)
	// A flicker that was counted isn't any more.
	w = begun(t, plain())
	ticks(w, 1, dark())
	told(t, w, calm(ev(group.Restart, 0, 0)), api.OK)
	is(t, w, group.Lost, feed.Mains, feed.Mains)
	told(t, w, calm(ev(group.Restart, 0, 0)), api.OK)
	is(t, w, group.Lost, feed.Mains, feed.Mains)
	ticks(w, 1, calm())
	is(t, w, group.Normal, feed.Mains, feed.Mains)
}

func TestRestartWhereTheGeneratorBearsAll(t *testing.T) {
	w := served(t, plain())
	told(t, w, dark(ev(group.Call, 0, 2)), api.OK)
	ticks(w, 4, dark())
	looks(t, w, 0, phase.Serving, 5, 2, 0, 2)
	told(t, w, dark(ev(group.Restart, 0, greatest)), api.OK)
	is(t, w, group.Gen, feed.Gen, feed.Gen)
	looks(t, w, 0, phase.Stalled, 5, 0, 0, -1)
	looks(t, w, 1, phase.Stalled, 0, 0, 2, -1)
	permits(t, w, ample)
	if w.Serves() != -1 {
		t.Errorf("Serves = %d", w.Serves())
	}
	// All goes on: they are recalled, in order.
	ticks(w, 1, dark())
	looks(t, w, 1, phase.Recall, 0, 0, 2, 0)
	ticks(w, 2, dark())
	looks(t, w, 0, phase.Recall, 4, -1, 0, 0)
	// In Back: Gen again, as the switch is there.
	w = served(t, plain())
	told(t, w, dark(ev(group.Call, 0, 2)), api.OK)
	ticks(w, 3, both())
	is(t, w, group.Back, feed.Gen, feed.Gen)
	told(t, w, dark(ev(group.Restart, 0, 0)), api.OK)
	is(t, w, group.Gen, feed.Gen, feed.Gen)
	// And from there on to Back, where mains are good at once.
	w = begun(t, changed(func(c *conf.Conf) { c.Good = 1 }))
	ticks(w, 10, dark())
	is(t, w, group.Gen, feed.Gen, feed.Gen)
	told(t, w, both(ev(group.Restart, 0, 0)), api.OK)
	is(t, w, group.Back, feed.None, feed.Gen)
	// While the switch goes over: Lost.
	w = served(t, plain())
	ticks(w, 2, both())
	is(t, w, group.Back, feed.None, feed.Gen)
	told(t, w, both(ev(group.Restart, 0, 0)), api.OK)
	is(t, w, group.Lost, feed.None, feed.None)
}

func TestRestartTearsTheJournal(t *testing.T) {
	first := ledger.Ledger{Budget: ample, L: []ledger.Permit{{Car: 1, Peak: 3}}}
	second := ledger.Ledger{Budget: ample}
	third := ledger.Ledger{Budget: ample, L: []ledger.Permit{{Car: 1, Peak: 3}}}
	for _, n := range []int{least, -1, 0, 1, 5, 25, 26, 27, greatest} {
		w := borne(t, plain())
		ticks(w, 1, dark())
		looks(t, w, 1, phase.Parked, 0, 0, 2, -1)
		told(t, w, dark(ev(group.Restart, 0, n)), api.OK)
		j := journal.From(nil, nil).Write(first).Write(second).Tear(n)
		// Car 0, that was Stalled, is recalled.
		j = j.Write(ledger.Ledger{Budget: ample, L: []ledger.Permit{{Car: 0, Peak: 3}}})
		if s := w.Slots(); !slices.EqualFunc(s, j.Slots(), bytes.Equal) {
			t.Fatalf("%d: Slots = %v, want %v", n, s, j.Slots())
		}
		looks(t, w, 0, phase.Recall, 0, 0, 2, 0)
		told(t, w, dark())
		told(t, w, dark())
		j = j.Write(second).Write(third)
		if s := w.Slots(); !slices.EqualFunc(s, j.Slots(), bytes.Equal) {
			t.Fatalf("%d: Slots = %v, want %v", n, s, j.Slots())
		}
	}
	// Where nothing was written nothing is torn.
	w := begun(t, plain())
	told(t, w, calm(ev(group.Restart, 0, 3)), api.OK)
	if s := w.Slots(); len(s[0])+len(s[1]) != 0 {
		t.Errorf("Slots = %v", s)
	}
}

// P23.3

func TestPower(t *testing.T) {
	w := begun(t, changed(func(c *conf.Conf) { c.Good = 200 }))
	for _, c := range []struct {
		mains, gen bool
		want       int
	}{{true, true, feed.Mains}, {true, false, feed.Mains}, {false, true, feed.None}, {false, false, feed.None}} {
		w.Tick(group.In{Mains: c.mains, Gen: c.gen, Capacity: ample})
		is(t, w, group.Normal, feed.Mains, c.want)
	}
	w = served(t, changed(func(c *conf.Conf) { c.Good = 2 }))
	for _, c := range []struct {
		mains, gen bool
		want       int
	}{{true, true, feed.Gen}, {false, true, feed.Gen}, {true, false, feed.None}, {false, false, feed.None}} {
		w.Tick(group.In{Mains: c.mains, Gen: c.gen, Capacity: ample})
		is(t, w, group.Gen, feed.Gen, c.want)
	}
}

func TestCapacityIsKnownLater(t *testing.T) {
	for _, lag := range []int{0, 1, 3, 8} {
		w := begun(t, changed(func(c *conf.Conf) { c.Lag, c.Dead, c.Good = lag, 1, 1 }))
		for tick := range 30 {
			w.Tick(group.In{Gen: true, Capacity: 100 + tick})
			want := 0
			if tick >= lag && tick >= 2 {
				want = 100 + tick - lag
			}
			if l := w.Ledger(); l.Budget != want {
				t.Fatalf("lag %d, tick %d: Budget = %d, want %d", lag, tick, l.Budget, want)
			}
		}
	}
	w := served(t, plain())
	for _, c := range []struct{ told, want int }{{-1, 0}, {least, 0}, {0, 0}, {1 << 20, 1 << 20}, {1<<20 + 1, 1 << 20}, {greatest, 1 << 20}, {7, 7}} {
		w.Tick(group.In{Gen: true, Capacity: c.told})
		permits(t, w, c.want)
	}
}

func TestLost(t *testing.T) {
	for _, good := range []int{1, 2, 5, 200} {
		w := begun(t, changed(func(c *conf.Conf) { c.Good = good }))
		told(t, w, calm(ev(group.Call, 0, 2), ev(group.Fault, 1, 0)), api.OK, api.OK)
		ticks(w, good-1, dark())
		is(t, w, group.Normal, feed.Mains, w.Power())
		looks(t, w, 0, phase.Normal, 0, 0, 1, 2)
		// A flicker is none.
		ticks(w, 1, calm())
		ticks(w, good-1, dark())
		is(t, w, group.Normal, feed.Mains, w.Power())
		looks(t, w, 0, phase.Normal, 0, 0, 0, 2)
		ticks(w, 1, dark())
		is(t, w, group.Lost, feed.None, feed.None)
		looks(t, w, 0, phase.Stalled, 0, 0, 0, -1)
		looks(t, w, 1, phase.Out, 0, 0, 2, -1)
		waits(t, w, 0, 4, 0)
	}
}

func TestLostAndFoundAgain(t *testing.T) {
	// Without a generator the switch stays where it is.
	w := begun(t, plain())
	none := group.In{}
	told(t, w, calm(ev(group.Fault, 1, 0)), api.OK)
	ticks(w, 9, none)
	is(t, w, group.Lost, feed.Mains, feed.None)
	looks(t, w, 0, phase.Stalled, 0, 0, 2, -1)
	ticks(w, 1, calm())
	is(t, w, group.Lost, feed.Mains, feed.Mains)
	ticks(w, 1, none)
	is(t, w, group.Lost, feed.Mains, feed.None)
	ticks(w, 1, calm())
	is(t, w, group.Lost, feed.Mains, feed.Mains)
	ticks(w, 1, calm())
	is(t, w, group.Normal, feed.Mains, feed.Mains)
	looks(t, w, 0, phase.Normal, 0, 0, 2, -1)
	looks(t, w, 1, phase.Out, 0, 0, 2, -1)
	// Mains are good again while the switch goes over: it must come back first.
	w = begun(t, changed(func(c *conf.Conf) { c.Good, c.Dead = 1, 3 }))
	ticks(w, 1, dark())
	is(t, w, group.Lost, feed.None, feed.None)
	ticks(w, 3, calm())
	is(t, w, group.Lost, feed.Gen, feed.None)
	// It is At Gen: that comes first, and Back only in the tick behind it.
	ticks(w, 1, calm())
	is(t, w, group.Gen, feed.None, feed.None)
	ticks(w, 1, calm())
	is(t, w, group.Back, feed.None, feed.None)
	ticks(w, 2, calm())
	is(t, w, group.Back, feed.Mains, feed.None)
	ticks(w, 1, calm())
	is(t, w, group.Normal, feed.Mains, feed.Mains)
}

func TestBackAndForth(t *testing.T) {
	w := served(t, plain())
	told(t, w, dark(ev(group.Call, 0, 2)), api.OK)
	ticks(w, 2, both())
	// A car goes: the switch waits for it.
	is(t, w, group.Back, feed.Gen, feed.Gen)
	looks(t, w, 0, phase.Serving, 1, 1, 0, 2)
	ticks(w, 1, dark())
	is(t, w, group.Back, feed.Gen, feed.Gen)
	ticks(w, 1, dark())
	is(t, w, group.Gen, feed.Gen, feed.Gen)
	looks(t, w, 0, phase.Serving, 5, 2, 0, 2)
	ticks(w, 2, both())
	is(t, w, group.Back, feed.Gen, feed.Gen)
	for w.At() == feed.Gen {
		ticks(w, 1, both())
	}
	// It came where it should; nobody is given another job.
	looks(t, w, 0, phase.Serving, 16, 0, 2, -1)
	is(t, w, group.Back, feed.None, feed.Gen)
	// Mains fail while the switch goes over.
	ticks(w, 2, dark())
	is(t, w, group.Lost, feed.Mains, feed.None)
	looks(t, w, 0, phase.Serving, 16, 0, 2, -1)
	ticks(w, 2, dark())
	is(t, w, group.Lost, feed.None, feed.None)
	ticks(w, 1, dark())
	is(t, w, group.Lost, feed.Gen, feed.None)
	ticks(w, 1, dark())
	is(t, w, group.Gen, feed.Gen, feed.Gen)
	// And come back.
	ticks(w, 2, both())
	is(t, w, group.Back, feed.None, feed.Gen)
	looks(t, w, 0, phase.Serving, 16, 0, 2, -1)
	if w.Serves() != 0 {
		t.Errorf("Serves = %d", w.Serves())
	}
	ticks(w, 2, both())
	is(t, w, group.Back, feed.Mains, feed.None)
	told(t, w, both(ev(group.Fault, 1, 0)), api.OK)
	is(t, w, group.Normal, feed.Mains, feed.Mains)
	looks(t, w, 0, phase.Normal, 16, 0, 2, -1)
	looks(t, w, 1, phase.Out, 0, 0, 2, -1)
	if w.Serves() != -1 {
		t.Errorf("Serves = %d", w.Serves())
	}
}

func TestNobodyIsBackAheadOfWhoFreesHimself(t *testing.T) {
	c := changed(func(c *conf.Conf) { c.Full, c.Good = 100, 1 })
	w := begun(t, c)
	told(t, w, calm(ev(group.Call, 0, 2)), api.OK)
	ticks(w, 5, calm())
	looks(t, w, 0, phase.Normal, 7, 2, 0, 2)
	ticks(w, 2, group.In{})
	looks(t, w, 0, phase.Stalled, 8, 1, 0, -1)
	// Mains are good: it stands first, and opens its doors.
	for _, s := range []group.Seen{{Pos: 8, Open: 0}, {Pos: 8, Open: 1}, {Pos: 8, Open: 2}} {
		ticks(w, 1, calm())
		is(t, w, group.Lost, feed.Mains, feed.Mains)
		looks(t, w, 0, phase.Stalled, s.Pos, 0, s.Open, -1)
	}
	ticks(w, 1, calm())
	is(t, w, group.Normal, feed.Mains, feed.Mains)
	looks(t, w, 0, phase.Normal, 8, 0, 2, -1)
	ticks(w, 1, calm())
	looks(t, w, 0, phase.Normal, 8, 0, 1, 2)
	// One that is out of order, or hasn't enough, holds nobody up.
	c.Full = 3
	w = begun(t, c)
	told(t, w, calm(ev(group.Call, 0, 2), ev(group.Call, 1, 2)), api.OK, api.OK)
	ticks(w, 4, calm())
	told(t, w, group.In{Events: []group.Event{ev(group.Fault, 1, 0)}}, api.OK)
	is(t, w, group.Lost, feed.Mains, feed.None)
	ticks(w, 1, calm())
	is(t, w, group.Normal, feed.Mains, feed.Mains)
	looks(t, w, 0, phase.Normal, 4, -1, 0, 0)
	looks(t, w, 1, phase.Out, 5, 0, 0, -1)
}
