package group_test

import (
	"bytes"
	"slices"
	"testing"

	"paternoster/api"
	"paternoster/conf"
	"paternoster/feed"
	"paternoster/group"
	"paternoster/journal"
	"paternoster/ledger"
	"paternoster/phase"
	"paternoster/rates"
)

// bears is a tick in which only the generator is there, of so much.
func bears(capacity int) group.In { return group.In{Gen: true, Capacity: capacity} }

// hindered is a tick in which cars' doors are blocked, too.
func hindered(in group.In, blocked uint64) group.In {
	in.Blocked = blocked
	return in
}

// draws tells of another number that was metered.
func draws(t *testing.T, w *group.World, want int) {
	t.Helper()
	if n := w.Drawn(); n != want {
		t.Fatalf("Drawn = %d, want %d", n, want)
	}
}

// has tells of a battery that has something else.
func has(t *testing.T, w *group.World, car, want int, frees bool) {
	t.Helper()
	if s := w.Cars()[car]; s.Have != want || s.Frees != frees {
		t.Fatalf("car %d: Have, Frees = %d, %t, want %d, %t", car, s.Have, s.Frees, want, frees)
	}
}

// called is a world of a plain group in which car 0, that serves, goes to floor 2, with a permit of 10.
func called(t *testing.T, c conf.Conf) *group.World {
	t.Helper()
	w := served(t, c)
	told(t, w, dark(ev(group.Call, 0, 2)), api.OK)
	ticks(w, 3, dark())
	looks(t, w, 0, phase.Serving, 3, 2, 0, 2)
	permits(t, w, ample, ledger.Permit{Car: 0, Peak: 10})
	return w
}

// P23.4

func TestPermitsAreTaken(t *testing.T) {
	w := called(t, plain())
	// Just borne.
	w.Tick(bears(10))
	looks(t, w, 0, phase.Serving, 5, 2, 0, 2)
	permits(t, w, 10, ledger.Permit{Car: 0, Peak: 10})
	w.Tick(bears(9))
	looks(t, w, 0, phase.Stalled, 5, 0, 0, -1)
	permits(t, w, 9)
	draws(t, w, 0)
	looks(t, w, 1, phase.Parked, 0, 0, 2, -1)
	// It must be recalled; as it is Stalled since this tick only, in the next one.
	w.Tick(bears(20))
	looks(t, w, 0, phase.Recall, 4, -1, 0, 0)
	permits(t, w, 20, ledger.Permit{Car: 0, Peak: 20})
	// The generator fails.
	w.Tick(group.In{Capacity: ample})
	is(t, w, group.Gen, feed.Gen, feed.None)
	looks(t, w, 0, phase.Stalled, 4, 0, 0, -1)
	permits(t, w, 0)
	// A permit of a car that is out of order is given back at once.
	w = called(t, plain())
	told(t, w, dark(ev(group.Fault, 0, 0)), api.OK)
	looks(t, w, 0, phase.Out, 3, 0, 0, -1)
	permits(t, w, ample)
	// What is given back so may be granted again in the same tick.
	w = called(t, plain())
	in := bears(10)
	in.Events = []group.Event{ev(group.Fault, 0, 0), ev(group.Call, 1, 2)}
	told(t, w, in, api.OK, api.OK)
	looks(t, w, 1, phase.Serving, 0, 0, 1, 2)
	permits(t, w, 10, ledger.Permit{Car: 1, Peak: 10})
}

func TestPermitsOfNothingAreTakenToo(t *testing.T) {
	c := changed(func(c *conf.Conf) { c.Banks[0].Rates = rates.Rates{} })
	w := begun(t, c)
	told(t, w, calm(ev(group.Call, 1, 2)), api.OK)
	ticks(w, 4, calm())
	ticks(w, 5, bears(0))
	looks(t, w, 1, phase.Recall, 4, -1, 0, 0)
	permits(t, w, 0, ledger.Permit{Car: 1})
	// A budget of 0 bears it as long as there is power.
	w.Tick(bears(0))
	looks(t, w, 1, phase.Recall, 2, -2, 0, 0)
	w.Tick(group.In{})
	looks(t, w, 1, phase.Stalled, 2, 0, 0, -1)
	permits(t, w, 0)
}

func TestNobodyHasAPermitInNormal(t *testing.T) {
	w := begun(t, plain())
	told(t, w, group.In{Mains: true, Gen: true, Capacity: ample, Events: []group.Event{ev(group.Call, 0, 2)}}, api.OK)
	ticks(w, 3, both())
	looks(t, w, 0, phase.Normal, 3, 2, 0, 2)
	permits(t, w, 0)
	w.Tick(dark())
	looks(t, w, 0, phase.Normal, 3, 0, 0, 2)
	permits(t, w, 0)
}

// P23.5

func TestCalledInNormal(t *testing.T) {
	// The chapter's example.
	w := begun(t, plain())
	told(t, w, calm(ev(group.Call, 0, 1)), api.OK)
	for i, want := range [][]int{
		{0, 0, 1, 1}, {0, 0, 0, 1}, {1, 1, 0, 1}, {3, 2, 0, 1}, {5, 2, 0, 1}, {7, 2, 0, 1}, {8, 1, 0, 1}, {8, 0, 0, 1}, {8, 0, 1, 1}, {8, 0, 2, -1}, {8, 0, 2, -1},
	} {
		if i > 0 {
			w.Tick(calm())
		}
		looks(t, w, 0, phase.Normal, want[0], want[1], want[2], want[3])
		looks(t, w, 1, phase.Normal, 0, 0, 2, -1)
	}
	waits(t, w, 0, 0, 0)
	// Without mains nobody is given a job.
	told(t, w, dark(ev(group.Call, 0, 2)), api.OK)
	looks(t, w, 0, phase.Normal, 8, 0, 2, -1)
	w.Tick(calm())
	looks(t, w, 0, phase.Normal, 8, 0, 1, 2)
}

func TestCallsOfWhereOneStands(t *testing.T) {
	w := begun(t, plain())
	told(t, w, calm(ev(group.Call, 0, 0), ev(group.Hall, 0, 0), ev(group.Call, 1, 0), ev(group.Call, 1, 2)), api.OK, api.OK, api.OK, api.OK)
	// Those at hand are done, and of each car one a tick.
	waits(t, w, 0, 0, 4)
	looks(t, w, 0, phase.Normal, 0, 0, 2, -1)
	looks(t, w, 1, phase.Normal, 0, 0, 2, -1)
	w.Tick(calm())
	looks(t, w, 1, phase.Normal, 0, 0, 1, 2)
	// With doors that aren't wide it is a job: they open first.
	told(t, w, calm(ev(group.Fault, 1, 0), ev(group.Reset, 1, 0), ev(group.Call, 1, 0)), api.OK, api.OK, api.OK)
	looks(t, w, 1, phase.Normal, 0, 0, 2, 0)
	waits(t, w, 0, 0, 5)
	w.Tick(calm())
	looks(t, w, 1, phase.Normal, 0, 0, 2, -1)
	waits(t, w, 0, 0, 4)
}

func TestWhoWaitsIsFetchedByOneCar(t *testing.T) {
	w := begun(t, plain())
	told(t, w, calm(ev(group.Hall, 0, 2)), api.OK)
	looks(t, w, 0, phase.Normal, 0, 0, 1, 2)
	looks(t, w, 1, phase.Normal, 0, 0, 2, -1)
	told(t, w, calm(ev(group.Hall, 0, 1)), api.OK)
	looks(t, w, 1, phase.Normal, 0, 0, 1, 1)
	ticks(w, 30, calm())
	waits(t, w, 0, 0, 0)
	looks(t, w, 0, phase.Normal, 16, 0, 2, -1)
	looks(t, w, 1, phase.Normal, 8, 0, 2, -1)
	// Who is in a car goes, whether or not another one goes there.
	told(t, w, calm(ev(group.Call, 0, 0), ev(group.Call, 1, 0)), api.OK, api.OK)
	looks(t, w, 0, phase.Normal, 16, 0, 1, 0)
	looks(t, w, 1, phase.Normal, 8, 0, 1, 0)
	// One that is out of order fetches nobody.
	w = begun(t, plain())
	told(t, w, calm(ev(group.Fault, 0, 0), ev(group.Hall, 0, 2), ev(group.Call, 0, 1)), api.OK, api.OK, api.OK)
	looks(t, w, 0, phase.Out, 0, 0, 2, -1)
	looks(t, w, 1, phase.Normal, 0, 0, 1, 2)
}

func TestDoorsStayWideForAWhile(t *testing.T) {
	for _, dwell := range []int{1, 2, 7} {
		w := begun(t, changed(func(c *conf.Conf) { c.Dwell = dwell }))
		told(t, w, calm(ev(group.Call, 0, 1), ev(group.Call, 0, 2)), api.OK, api.OK)
		ticks(w, 9, calm())
		looks(t, w, 0, phase.Normal, 8, 0, 2, -1)
		ticks(w, dwell, calm())
		looks(t, w, 0, phase.Normal, 8, 0, 2, -1)
		ticks(w, 1, calm())
		looks(t, w, 0, phase.Normal, 8, 0, 1, 2)
	}
	// At hand: the call is done when the doors may shut, too.
	w := begun(t, changed(func(c *conf.Conf) { c.Dwell = 3 }))
	told(t, w, calm(ev(group.Call, 0, 1)), api.OK)
	ticks(w, 9, calm())
	told(t, w, calm(ev(group.Call, 0, 1), ev(group.Hall, 0, 1)), api.OK, api.OK)
	waits(t, w, 2, 2, 0)
	looks(t, w, 1, phase.Normal, 0, 0, 1, 1)
	ticks(w, 2, calm())
	waits(t, w, 2, 2, 0)
	ticks(w, 1, calm())
	waits(t, w, 0, 0, 0)
}

func TestBetweenFloorsInNormal(t *testing.T) {
	w := begun(t, plain())
	told(t, w, calm(ev(group.Call, 0, 2)), api.OK)
	ticks(w, 7, calm())
	looks(t, w, 0, phase.Normal, 11, 2, 0, 2)
	told(t, w, calm(ev(group.Fault, 0, 0)), api.OK)
	// It goes to the floor below it first, whoever wants to wherever, and what is waited for there is done.
	told(t, w, calm(ev(group.Reset, 0, 0), ev(group.Call, 0, 1)), api.OK, api.OK)
	looks(t, w, 0, phase.Normal, 10, -1, 0, 1)
	ticks(w, 4, calm())
	looks(t, w, 0, phase.Normal, 8, 0, 1, 1)
	waits(t, w, 0, 6, 0)
	ticks(w, 1, calm())
	looks(t, w, 0, phase.Normal, 8, 0, 2, -1)
	waits(t, w, 0, 4, 0)
}

func TestRecalledInOrder(t *testing.T) {
	c := changed(func(c *conf.Conf) { c.Banks[0].Cars, c.Order, c.Home = 3, []int{2, 0, 1}, 1 })
	w := begun(t, c)
	told(t, w, calm(ev(group.Load, 0, 30)), api.OK)
	ticks(w, 4, dark())
	is(t, w, group.Lost, feed.Gen, feed.None)
	var rows [][]int
	var granted []ledger.Permit
	for range 60 {
		w.Tick(dark())
		if p := phasesOf(w); len(rows) == 0 || !slices.Equal(rows[len(rows)-1], p) {
			rows = append(rows, p)
		}
		for _, p := range w.Ledger().L {
			if !slices.Contains(granted, p) {
				granted = append(granted, p)
			}
		}
	}
	want := [][]int{{1, 1, 2}, {1, 1, 3}, {2, 1, 3}, {3, 1, 3}, {3, 2, 3}, {3, 3, 3}, {4, 3, 3}, {3, 4, 3}, {3, 3, 4}, {4, 3, 3}}
	if len(rows) < len(want) || !slices.EqualFunc(rows[:len(want)], want, slices.Equal) {
		t.Errorf("%v, want %v", rows, want)
	}
	// The load of 30 is heavy upwards, no load is light.
	if l := []ledger.Permit{{Car: 2, Peak: 10}, {Car: 0, Peak: 30}, {Car: 1, Peak: 10}}; !slices.Equal(granted, l) {
		t.Errorf("%v, want %v", granted, l)
	}
}

func TestRecallOfOneThatIsNotBorne(t *testing.T) {
	c := changed(func(c *conf.Conf) {
		heavy := rates0
		heavy.Door = 50
		c.Banks = []conf.Bank{{Cars: 1, Rates: rates0}, {Cars: 1, Rates: heavy}}
	})
	w := begun(t, c)
	ticks(w, 30, bears(49))
	// Car 1 is the first one in order; nobody else goes ahead of it.
	is(t, w, group.Gen, feed.Gen, feed.Gen)
	looks(t, w, 0, phase.Stalled, 0, 0, 2, -1)
	looks(t, w, 1, phase.Stalled, 0, 0, 2, -1)
	permits(t, w, 49)
	// What is granted is the way's Peak, and no more than the budget is needed for that.
	w.Tick(bears(50))
	looks(t, w, 1, phase.Recall, 0, 0, 2, 0)
	permits(t, w, 50, ledger.Permit{Car: 1, Peak: 50})
	// Out of order it holds nobody up.
	w = begun(t, c)
	w.Tick(group.In{Events: []group.Event{ev(group.Fault, 1, 0)}})
	ticks(w, 4, bears(49))
	looks(t, w, 0, phase.Recall, 0, 0, 2, 0)
	permits(t, w, 49, ledger.Permit{Car: 0, Peak: 3})
	ticks(w, 2, bears(49))
	looks(t, w, 0, phase.Serving, 0, 0, 2, -1)
}

func TestRecallOfOneThatIsResetWhileOneServes(t *testing.T) {
	w := served(t, plain())
	told(t, w, dark(ev(group.Fault, 1, 0)), api.OK)
	looks(t, w, 0, phase.Serving, 0, 0, 2, -1)
	told(t, w, dark(ev(group.Reset, 1, 0), ev(group.Call, 0, 2)), api.OK, api.OK)
	// Stalled since this tick only: nothing is done, for the one that serves neither.
	looks(t, w, 0, phase.Serving, 0, 0, 2, -1)
	looks(t, w, 1, phase.Stalled, 0, 0, 2, -1)
	w.Tick(dark())
	looks(t, w, 0, phase.Parked, 0, 0, 2, -1)
	looks(t, w, 1, phase.Recall, 0, 0, 2, 0)
	if w.Serves() != -1 {
		t.Errorf("Serves = %d", w.Serves())
	}
	ticks(w, 2, dark())
	// The lowest one, with its whole turn.
	looks(t, w, 0, phase.Serving, 0, 0, 1, 2)
	// While one that serves goes nobody is recalled.
	told(t, w, dark(ev(group.Fault, 1, 0), ev(group.Reset, 1, 0)), api.OK, api.OK)
	ticks(w, 3, dark())
	looks(t, w, 0, phase.Serving, 5, 2, 0, 2)
	looks(t, w, 1, phase.Stalled, 0, 0, 2, -1)
}

func TestRecallWaitsForWhoFreesHimself(t *testing.T) {
	c := changed(func(c *conf.Conf) { c.Full, c.Width, c.Dead = 100, 9, 1 })
	w := begun(t, c)
	told(t, w, calm(ev(group.Call, 0, 2), ev(group.Fault, 1, 0)), api.OK, api.OK)
	ticks(w, 10, calm())
	looks(t, w, 0, phase.Normal, 3, 2, 0, 2)
	ticks(w, 4, dark())
	is(t, w, group.Gen, feed.Gen, feed.Gen)
	looks(t, w, 0, phase.Stalled, 6, 1, 0, -1)
	told(t, w, dark(ev(group.Reset, 1, 0)), api.OK)
	// Car 1 may be recalled, car 0 not yet: it frees itself.
	ticks(w, 2, dark())
	looks(t, w, 1, phase.Parked, 0, 0, 9, -1)
	ticks(w, 8, dark())
	looks(t, w, 0, phase.Stalled, 8, 0, 8, -1)
	looks(t, w, 1, phase.Parked, 0, 0, 9, -1)
	ticks(w, 1, dark())
	looks(t, w, 0, phase.Stalled, 8, 0, 9, -1)
	ticks(w, 1, dark())
	looks(t, w, 0, phase.Recall, 8, 0, 8, 0)
}

func TestServing(t *testing.T) {
	w := served(t, plain())
	// Each in turn, for Turn ticks.
	for tick := 1; tick < 23; tick++ {
		w.Tick(dark())
		if car := tick / 5 % 2; w.Serves() != car || w.Cars()[car].Phase != phase.Serving || w.Cars()[1-car].Phase != phase.Parked {
			t.Fatalf("tick %d: %d serves: %+v", tick, w.Serves(), w.Cars())
		}
	}
	// Calls at hand are done at once; those of a car that doesn't serve wait.
	told(t, w, dark(ev(group.Hall, 0, 0), ev(group.Call, 0, 0), ev(group.Call, 1, 0), ev(group.Call, 1, 2)), api.OK, api.OK, api.OK, api.OK)
	waits(t, w, 0, 0, 5)
	permits(t, w, ample)
	told(t, w, dark(ev(group.Hall, 0, 2)), api.OK)
	looks(t, w, 0, phase.Serving, 0, 0, 1, 2)
	permits(t, w, ample, ledger.Permit{Car: 0, Peak: 10})
	ticks(w, 12, dark())
	looks(t, w, 0, phase.Serving, 16, 0, 1, 2)
	waits(t, w, 4, 0, 5)
	ticks(w, 1, dark())
	looks(t, w, 0, phase.Serving, 16, 0, 2, -1)
	waits(t, w, 0, 0, 5)
	permits(t, w, ample)
	// While one was busy no turn went by: of its 5 ticks car 0 had one left.
	ticks(w, 1, dark())
	looks(t, w, 0, phase.Parked, 16, 0, 2, -1)
	looks(t, w, 1, phase.Serving, 0, 0, 2, -1)
	waits(t, w, 0, 0, 4)
}

func TestServingIsOnlyLetGoIfItIsBorne(t *testing.T) {
	w := served(t, plain())
	in := bears(9)
	in.Events = []group.Event{ev(group.Call, 0, 2)}
	w.Tick(in)
	looks(t, w, 0, phase.Serving, 0, 0, 2, -1)
	waits(t, w, 0, 4, 0)
	permits(t, w, 9)
	w.Tick(bears(10))
	looks(t, w, 0, phase.Serving, 0, 0, 1, 2)
	// The way that it goes counts: a heavy load goes down easily.
	w = served(t, plain())
	told(t, w, dark(ev(group.Load, 0, 30), ev(group.Call, 0, 1)), api.OK, api.OK)
	permits(t, w, ample, ledger.Permit{Car: 0, Peak: 30})
	for w.Cars()[0].Job >= 0 {
		w.Tick(dark())
	}
	told(t, w, dark(ev(group.Pick, 0, 0), ev(group.Call, 0, 0)), api.OK, api.OK)
	permits(t, w, ample)
	// Its doors must have been wide for a while first.
	looks(t, w, 0, phase.Serving, 8, 0, 2, -1)
	w.Tick(dark())
	permits(t, w, ample, ledger.Permit{Car: 0, Peak: 10})
	looks(t, w, 0, phase.Serving, 8, 0, 1, 0)
}

func TestNobodyIsGivenAJobInBack(t *testing.T) {
	w := served(t, plain())
	w.Tick(both())
	told(t, w, both(ev(group.Call, 0, 2), ev(group.Hall, 0, 0)), api.OK, api.OK)
	is(t, w, group.Back, feed.None, feed.Gen)
	looks(t, w, 0, phase.Serving, 0, 0, 2, -1)
	waits(t, w, 1, 4, 0)
	// Nor is anybody where the generator is gone.
	w = served(t, plain())
	told(t, w, group.In{Events: []group.Event{ev(group.Call, 0, 2)}}, api.OK)
	looks(t, w, 0, phase.Serving, 0, 0, 2, -1)
	permits(t, w, 0)
	// What is recalled in Back goes on, and comes home.
	w = called(t, plain())
	ticks(w, 1, group.In{})
	ticks(w, 4, both())
	is(t, w, group.Back, feed.Gen, feed.Gen)
	looks(t, w, 0, phase.Recall, 0, 0, 0, 0)
	ticks(w, 2, both())
	is(t, w, group.Back, feed.None, feed.Gen)
	looks(t, w, 0, phase.Parked, 0, 0, 2, -1)
}

// P23.6

func TestDoorsThatAreBlockedOpenAgain(t *testing.T) {
	w := begun(t, changed(func(c *conf.Conf) { c.Width = 4 }))
	told(t, w, hindered(calm(ev(group.Call, 0, 1)), 1), api.OK)
	// Wide ones don't open again: they just don't shut.
	looks(t, w, 0, phase.Normal, 0, 0, 4, 1)
	ticks(w, 2, hindered(calm(), 2))
	looks(t, w, 0, phase.Normal, 0, 0, 2, 1)
	for range 3 {
		w.Tick(hindered(calm(), 1))
		looks(t, w, 0, phase.Normal, 0, 0, 2, 1)
		// From the next tick on, whether or not they are blocked, until they are wide.
		w.Tick(calm())
		looks(t, w, 0, phase.Normal, 0, 0, 3, 1)
		w.Tick(hindered(calm(), 1))
		looks(t, w, 0, phase.Normal, 0, 0, 4, 1)
		ticks(w, 2, calm())
		looks(t, w, 0, phase.Normal, 0, 0, 2, 1)
	}
	// No oftener until they were shut.
	ticks(w, 5, hindered(calm(), 1))
	looks(t, w, 0, phase.Normal, 0, 0, 2, 1)
	ticks(w, 2, calm())
	looks(t, w, 0, phase.Normal, 0, 0, 0, 1)
	ticks(w, 11, calm())
	looks(t, w, 0, phase.Normal, 8, 0, 4, -1)
	told(t, w, calm(ev(group.Call, 0, 0)), api.OK)
	ticks(w, 1, calm())
	looks(t, w, 0, phase.Normal, 8, 0, 2, 0)
	w.Tick(hindered(calm(), 1))
	ticks(w, 2, calm())
	looks(t, w, 0, phase.Normal, 8, 0, 4, 0)
}

func TestDoorsOpenAgainBehindAFlicker(t *testing.T) {
	w := begun(t, changed(func(c *conf.Conf) { c.Width = 4 }))
	told(t, w, calm(ev(group.Call, 0, 1)), api.OK)
	ticks(w, 2, calm())
	w.Tick(hindered(calm(), 1))
	w.Tick(dark())
	looks(t, w, 0, phase.Normal, 0, 0, 1, 1)
	ticks(w, 3, calm())
	looks(t, w, 0, phase.Normal, 0, 0, 4, 1)
	ticks(w, 1, calm())
	looks(t, w, 0, phase.Normal, 0, 0, 3, 1)
}

func TestDoorsNeverOpenAgainInOtherModes(t *testing.T) {
	w := served(t, changed(func(c *conf.Conf) { c.Width = 2 }))
	told(t, w, dark(ev(group.Call, 0, 1)), api.OK)
	looks(t, w, 0, phase.Serving, 0, 0, 1, 1)
	for range 5 {
		w.Tick(hindered(dark(), 1))
		looks(t, w, 0, phase.Serving, 0, 0, 1, 1)
	}
	w.Tick(dark())
	looks(t, w, 0, phase.Serving, 0, 0, 0, 1)
	// Those that were to open again in Normal shut where they are recalled.
	w = begun(t, changed(func(c *conf.Conf) { c.Width, c.Good, c.Home = 4, 1, 1 }))
	told(t, w, calm(ev(group.Call, 1, 1)), api.OK)
	ticks(w, 1, calm())
	w.Tick(hindered(calm(), 2))
	ticks(w, 3, dark())
	looks(t, w, 1, phase.Stalled, 0, 0, 2, -1)
	ticks(w, 1, dark())
	looks(t, w, 1, phase.Recall, 0, 0, 1, 1)
	ticks(w, 1, dark())
	looks(t, w, 1, phase.Recall, 0, 0, 0, 1)
}

func TestFreed(t *testing.T) {
	for _, c := range []struct {
		load, good int
		rows       [][]int // Pos, Vel, Open, Have, tick by tick
	}{
		// Light: up. It is braked first, as it may be a flicker.
		{0, 2, [][]int{{11, 0, 0, 70}, {12, 1, 0, 63}, {13, 1, 0, 56}, {14, 1, 0, 49}, {15, 1, 0, 42}, {16, 1, 0, 35}, {16, 0, 0, 35}, {16, 0, 1, 28}, {16, 0, 2, 21}, {16, 0, 2, 21}}},
		{9, 2, [][]int{{11, 0, 0, 70}, {12, 1, 0, 63}}},
		// As heavy as what is on the other side, or heavier: down.
		{10, 2, [][]int{{11, 0, 0, 70}, {10, -1, 0, 63}, {9, -1, 0, 56}, {8, -1, 0, 49}, {8, 0, 0, 49}, {8, 0, 1, 42}, {8, 0, 2, 35}, {8, 0, 2, 35}}},
		{64, 2, [][]int{{11, 0, 0, 70}, {10, -1, 0, 63}}},
		// Lost at once, at a speed that isn't its own: it is braked.
		{0, 1, [][]int{{11, 0, 0, 70}, {12, 1, 0, 63}}},
		{10, 1, [][]int{{11, 0, 0, 70}, {10, -1, 0, 63}}},
	} {
		w := begun(t, changed(func(f *conf.Conf) { f.Full, f.Cost, f.Good = 70, 7, c.good }))
		told(t, w, calm(ev(group.Load, 0, c.load), ev(group.Call, 0, 2)), api.OK, api.OK)
		ticks(w, 7, calm())
		looks(t, w, 0, phase.Normal, 11, 2, 0, 2)
		for i, want := range c.rows {
			w.Tick(group.In{})
			s := w.Cars()[0]
			if got := []int{s.Pos, s.Vel, s.Open, s.Have}; !slices.Equal(got, want) {
				t.Fatalf("load %d, good %d, tick %d: %v, want %v", c.load, c.good, i, got, want)
			}
			draws(t, w, 0)
		}
	}
}

func TestFreedWithoutStanding(t *testing.T) {
	for _, c := range []struct {
		load, pos, vel int
	}{{0, 2, 1}, {10, 1, 0}} {
		w := begun(t, changed(func(f *conf.Conf) { f.Full, f.Good = 70, 1 }))
		told(t, w, calm(ev(group.Load, 0, c.load), ev(group.Call, 0, 2)), api.OK, api.OK)
		ticks(w, 2, calm())
		looks(t, w, 0, phase.Normal, 1, 1, 0, 2)
		w.Tick(group.In{})
		looks(t, w, 0, phase.Stalled, c.pos, c.vel, 0, -1)
	}
}

func TestFreedIfTheBatteryHasEnough(t *testing.T) {
	// From 11 up to 16, and 2 for the doors: 7 times Cost.
	for _, c := range []struct {
		cost, full int
		frees      bool
	}{{1, 7, true}, {1, 6, false}, {10, 70, true}, {10, 69, false}, {0, 0, true}, {100, 700, true}, {100, 0, false}} {
		w := begun(t, changed(func(f *conf.Conf) { f.Full, f.Cost = c.full, c.cost }))
		told(t, w, calm(ev(group.Call, 0, 2)), api.OK)
		ticks(w, 7, calm())
		looks(t, w, 0, phase.Normal, 11, 2, 0, 2)
		w.Tick(group.In{})
		// In Normal nobody does.
		has(t, w, 0, c.full, false)
		w.Tick(group.In{})
		if !c.frees {
			ticks(w, 9, group.In{})
			has(t, w, 0, c.full, false)
			looks(t, w, 0, phase.Stalled, 11, 0, 0, -1)
			continue
		}
		has(t, w, 0, c.full-c.cost, true)
		ticks(w, 6, group.In{})
		has(t, w, 0, c.full-6*c.cost, true)
		ticks(w, 1, group.In{})
		has(t, w, 0, c.full-7*c.cost, false)
		looks(t, w, 0, phase.Stalled, 16, 0, 2, -1)
		ticks(w, 9, group.In{})
		has(t, w, 0, c.full-7*c.cost, false)
	}
}

func TestFreedAtAFloor(t *testing.T) {
	for _, full := range []int{1, 2} {
		w := begun(t, changed(func(c *conf.Conf) { c.Full = full }))
		told(t, w, calm(ev(group.Call, 0, 2)), api.OK)
		ticks(w, 1, calm())
		looks(t, w, 0, phase.Normal, 0, 0, 0, 2)
		ticks(w, 10, group.In{})
		// 2 for doors of 2.
		looks(t, w, 0, phase.Stalled, 0, 0, 2*(full/2), -1)
		has(t, w, 0, full%2, false)
	}
	// One that is out of order frees nobody.
	w := begun(t, changed(func(c *conf.Conf) { c.Full = 50 }))
	told(t, w, calm(ev(group.Call, 0, 2)), api.OK)
	ticks(w, 3, calm())
	told(t, w, group.In{Events: []group.Event{ev(group.Fault, 0, 0)}}, api.OK)
	ticks(w, 10, group.In{})
	looks(t, w, 0, phase.Out, 3, 0, 0, -1)
	has(t, w, 0, 50, false)
	// Who is recalled, or serves, doesn't free himself, but goes.
	w = served(t, changed(func(c *conf.Conf) { c.Full = 50 }))
	told(t, w, dark(ev(group.Call, 0, 2)), api.OK)
	for w.Cars()[0].Job >= 0 {
		has(t, w, 0, 50, false)
		w.Tick(dark())
	}
	has(t, w, 0, 50, false)
}

func TestNobodyFreesHimselfInAFlicker(t *testing.T) {
	w := begun(t, changed(func(c *conf.Conf) { c.Full, c.Width = 50, 3 }))
	told(t, w, calm(ev(group.Call, 0, 2)), api.OK)
	told(t, w, calm(ev(group.Fault, 0, 0)), api.OK)
	// It is Level, without a job; but there is no power, and it is Normal.
	told(t, w, dark(ev(group.Reset, 0, 0)), api.OK)
	looks(t, w, 0, phase.Normal, 0, 0, 2, -1)
	has(t, w, 0, 50, false)
	draws(t, w, 0)
	w.Tick(calm())
	looks(t, w, 0, phase.Normal, 0, 0, 1, 2)
}

func TestOutOfOrder(t *testing.T) {
	// At a floor with doors ajar they stay so, with mains and without.
	w := begun(t, plain())
	told(t, w, calm(ev(group.Call, 0, 1)), api.OK)
	told(t, w, calm(ev(group.Fault, 0, 0)), api.OK)
	for _, in := range []group.In{calm(), dark(), both()} {
		ticks(w, 20, in)
		looks(t, w, 0, phase.Out, 0, 0, 1, -1)
	}
	told(t, w, both(ev(group.Reset, 0, 0)), api.OK)
	looks(t, w, 0, phase.Normal, 0, 0, 0, 1)
}

// P23.7

func TestDrawn(t *testing.T) {
	for _, c := range []struct {
		load int
		want []int
	}{
		// The doors, faster, faster, even, even, slower, rest, the doors, rest.
		{0, []int{3, 3, 10, 10, 5, 5, 5, 0, 3, 3, 0, 0}},
		{10, []int{3, 3, 10, 10, 5, 5, 5, 0, 3, 3, 0, 0}},
		{11, []int{3, 3, 11, 11, 6, 6, 6, 0, 3, 3, 0, 0}},
		{64, []int{3, 3, 64, 64, 59, 59, 59, 0, 3, 3, 0, 0}},
	} {
		w := begun(t, plain())
		w.Tick(calm(ev(group.Load, 0, c.load), ev(group.Call, 0, 1)))
		for i, want := range c.want {
			if w.Drawn() != want {
				t.Fatalf("load %d, tick %d: Drawn = %d, want %d", c.load, i, w.Drawn(), want)
			}
			w.Tick(calm())
		}
		// And down: a light load is heavy then.
		w.Tick(calm(ev(group.Load, 0, 0), ev(group.Call, 0, 0)))
		for i, want := range []int{3, 3, 20, 20, 15, 15, 15, 0, 3, 3, 0} {
			if w.Drawn() != want {
				t.Fatalf("down, tick %d: Drawn = %d, want %d", i, w.Drawn(), want)
			}
			w.Tick(calm())
		}
	}
}

func TestDrawnByAll(t *testing.T) {
	w := begun(t, plain())
	w.Tick(calm(ev(group.Call, 0, 1), ev(group.Call, 1, 2)))
	draws(t, w, 6)
	ticks(w, 2, calm())
	draws(t, w, 20)
	// A flicker: nothing is drawn.
	w.Tick(dark())
	draws(t, w, 0)
	// Of each car what its bank's rates tell.
	w = begun(t, changed(func(c *conf.Conf) {
		c.Banks = []conf.Bank{{Cars: 1, Rates: rates0}, {Cars: 1, Rates: rates.Rates{Idle: 100, Move: 200, Gain: 300, Door: 50, Weight: 1}}}
	}))
	w.Tick(calm(ev(group.Call, 0, 1), ev(group.Call, 1, 1)))
	for i, want := range []int{53, 53, 610, 610, 305, 305, 305, 0, 53, 53, 0} {
		if w.Drawn() != want {
			t.Fatalf("tick %d: Drawn = %d, want %d", i, w.Drawn(), want)
		}
		w.Tick(calm())
	}
	// Doors that are blocked draw, too.
	w = begun(t, plain())
	w.Tick(hindered(calm(ev(group.Call, 0, 1)), 1))
	draws(t, w, 3)
	w.Tick(hindered(calm(), 1))
	draws(t, w, 3)
	// In Normal doors open, without a job.
	w.Tick(calm())
	told(t, w, calm(ev(group.Fault, 0, 0)), api.OK)
	draws(t, w, 0)
	told(t, w, calm(ev(group.Reset, 0, 0), ev(group.Fault, 0, 0)), api.OK, api.OK)
	draws(t, w, 0)
	w = begun(t, plain())
	told(t, w, calm(ev(group.Call, 0, 1)), api.OK)
	told(t, w, calm(ev(group.Fault, 0, 0)), api.OK)
	ticks(w, 2, group.In{})
	is(t, w, group.Lost, feed.Mains, feed.None)
	told(t, w, group.In{Events: []group.Event{ev(group.Reset, 0, 0)}}, api.OK)
	ticks(w, 1, calm())
	draws(t, w, 0)
	looks(t, w, 0, phase.Stalled, 0, 0, 1, -1)
	// Back in Normal, without anything to go for.
	w = begun(t, changed(func(c *conf.Conf) { c.Width = 3 }))
	ticks(w, 1, calm(ev(group.Hall, 0, 2)))
	looks(t, w, 0, phase.Normal, 0, 0, 2, 2)
	ticks(w, 1, calm(ev(group.Fault, 0, 0)))
	looks(t, w, 1, phase.Normal, 0, 0, 2, 2)
	w.Tick(calm(ev(group.Reset, 0, 0)))
	looks(t, w, 0, phase.Normal, 0, 0, 3, -1)
	draws(t, w, 3+3)
}

func TestDrawnOfTheGenerator(t *testing.T) {
	w := called(t, plain())
	draws(t, w, 10)
	for i, want := range []int{5, 5, 5, 5, 5, 5, 5, 0, 3, 3, 0} {
		w.Tick(dark())
		if w.Drawn() != want {
			t.Fatalf("tick %d: Drawn = %d, want %d", i, w.Drawn(), want)
		}
	}
	// In Back, too.
	w = called(t, plain())
	ticks(w, 3, both())
	is(t, w, group.Back, feed.Gen, feed.Gen)
	draws(t, w, 5)
	// Whoever frees himself draws nothing.
	w = begun(t, changed(func(c *conf.Conf) { c.Full, c.Dead, c.Good = 100, 1, 1 }))
	told(t, w, calm(ev(group.Call, 0, 2)), api.OK)
	ticks(w, 7, calm())
	for range 8 {
		w.Tick(hindered(bears(0), 3))
		draws(t, w, 0)
	}
	looks(t, w, 0, phase.Stalled, 16, 0, 1, -1)
	is(t, w, group.Gen, feed.Gen, feed.Gen)
}

func TestBatteriesAreFilled(t *testing.T) {
	w := begun(t, changed(func(c *conf.Conf) { c.Full = 40 }))
	told(t, w, calm(ev(group.Call, 0, 2), ev(group.Call, 1, 2)), api.OK, api.OK)
	ticks(w, 7, calm())
	looks(t, w, 0, phase.Normal, 11, 2, 0, 2)
	has(t, w, 0, 40, false)
	ticks(w, 10, group.In{})
	has(t, w, 0, 33, false)
	has(t, w, 1, 33, false)
	told(t, w, group.In{Events: []group.Event{ev(group.Fault, 1, 0)}}, api.OK)
	// Mains are there, but it isn't Normal yet.
	ticks(w, 1, calm())
	is(t, w, group.Lost, feed.Mains, feed.Mains)
	has(t, w, 0, 33, false)
	ticks(w, 1, calm())
	is(t, w, group.Normal, feed.Mains, feed.Mains)
	has(t, w, 0, 34, false)
	has(t, w, 1, 34, false)
	// It is Normal, but mains flicker.
	ticks(w, 1, dark())
	has(t, w, 0, 34, false)
	ticks(w, 5, calm())
	has(t, w, 0, 39, false)
	ticks(w, 1, calm())
	has(t, w, 0, 40, false)
	ticks(w, 9, calm())
	has(t, w, 0, 40, false)
	has(t, w, 1, 40, false)
}

// P23.8

func TestArrived(t *testing.T) {
	w := begun(t, plain())
	told(t, w, calm(ev(group.Call, 0, 1), ev(group.Call, 1, 1)), api.OK, api.OK)
	ticks(w, 8, calm())
	told(t, w, calm(ev(group.Hall, 0, 1)), api.OK)
	// Both are there, and each had somebody for that floor.
	looks(t, w, 0, phase.Normal, 8, 0, 2, -1)
	looks(t, w, 1, phase.Normal, 8, 0, 2, -1)
	waits(t, w, 0, 0, 0)
}

func TestArrivedAtHome(t *testing.T) {
	w := begun(t, plain())
	told(t, w, calm(ev(group.Call, 1, 2)), api.OK)
	ticks(w, 3, calm())
	in := dark(ev(group.Call, 1, 0), ev(group.Hall, 0, 0))
	told(t, w, in, api.OK, api.OK)
	ticks(w, 4, dark())
	looks(t, w, 1, phase.Recall, 2, -1, 0, 0)
	waits(t, w, 1, 0, 5)
	ticks(w, 4, dark())
	looks(t, w, 1, phase.Recall, 0, 0, 1, 0)
	waits(t, w, 1, 0, 5)
	ticks(w, 1, dark())
	looks(t, w, 1, phase.Parked, 0, 0, 2, -1)
	// Who is in it is home; who waits there isn't let in yet.
	waits(t, w, 1, 0, 4)
	permits(t, w, ample)
	// A job that is fresh isn't done in its tick, though it is there.
	ticks(w, 1, dark())
	looks(t, w, 0, phase.Recall, 0, 0, 2, 0)
	permits(t, w, ample, ledger.Permit{Car: 0, Peak: 3})
	ticks(w, 1, dark())
	looks(t, w, 0, phase.Parked, 0, 0, 2, -1)
	permits(t, w, ample)
}

func TestJournal(t *testing.T) {
	w := begun(t, plain())
	j := journal.From(nil, nil)
	kept := func(tick string) {
		t.Helper()
		if s := w.Slots(); !slices.EqualFunc(s, j.Slots(), bytes.Equal) {
			t.Fatalf("%s: Slots = %v, want %v", tick, s, j.Slots())
		}
	}
	of := func(budget int, l ...ledger.Permit) ledger.Ledger { return ledger.Ledger{Budget: budget, L: l} }
	// Another budget alone isn't written.
	told(t, w, calm(ev(group.Call, 1, 2)), api.OK)
	ticks(w, 3, calm())
	ticks(w, 4, dark())
	kept("lost")
	w.Tick(bears(100))
	j = j.Write(of(100, ledger.Permit{Car: 1, Peak: 20}))
	kept("granted")
	w.Tick(bears(90))
	permits(t, w, 90, ledger.Permit{Car: 1, Peak: 20})
	kept("another budget")
	// Too little for car 0, too, which else would be recalled where it stands.
	w.Tick(bears(2))
	j = j.Write(of(2))
	kept("taken")
	w.Tick(bears(70))
	j = j.Write(of(70, ledger.Permit{Car: 1, Peak: 20}))
	kept("granted again")
	for w.Cars()[1].Job >= 0 {
		kept("goes")
		w.Tick(bears(70))
	}
	j = j.Write(of(70))
	kept("given back")
	told(t, w, dark(ev(group.Restart, 0, 10)), api.OK)
	j = j.Tear(10).Write(of(ample, ledger.Permit{Car: 0, Peak: 3}))
	kept("torn")
	// Given back as all is forgotten: others than at the tick's beginning.
	in := bears(2)
	in.Events = []group.Event{ev(group.Restart, 0, greatest)}
	told(t, w, in, api.OK)
	j = j.Write(of(2))
	kept("forgotten")
}

func TestJournalOfOthersThoughAsMany(t *testing.T) {
	w := begun(t, plain())
	told(t, w, calm(ev(group.Call, 1, 2)), api.OK)
	ticks(w, 3, calm())
	ticks(w, 4, dark())
	w.Tick(bears(20))
	permits(t, w, 20, ledger.Permit{Car: 1, Peak: 20})
	// Too little for that one; but car 0, that was Stalled, is recalled where it stands.
	w.Tick(bears(19))
	permits(t, w, 19, ledger.Permit{Car: 0, Peak: 3})
	j := journal.From(nil, nil)
	j = j.Write(ledger.Ledger{Budget: 20, L: []ledger.Permit{{Car: 1, Peak: 20}}})
	j = j.Write(ledger.Ledger{Budget: 19, L: []ledger.Permit{{Car: 0, Peak: 3}}})
	if s := w.Slots(); !slices.EqualFunc(s, j.Slots(), bytes.Equal) {
		t.Errorf("Slots = %v, want %v", s, j.Slots())
	}
}

func TestSwitch(t *testing.T) {
	for _, dead := range []int{1, 2, 5, 200} {
		c := changed(func(c *conf.Conf) { c.Dead, c.Good = dead, 1 })
		w := begun(t, c)
		// It goes over to a generator that is there, in Dead ticks.
		ticks(w, 5, group.In{})
		is(t, w, group.Lost, feed.Mains, feed.None)
		ticks(w, 1, dark())
		is(t, w, group.Lost, feed.None, feed.None)
		ticks(w, dead-1, group.In{})
		is(t, w, group.Lost, feed.None, feed.None)
		ticks(w, 1, group.In{})
		is(t, w, group.Lost, feed.Gen, feed.None)
		// It stays there without a generator.
		ticks(w, 5, group.In{})
		is(t, w, group.Gen, feed.Gen, feed.None)
		ticks(w, 1, calm())
		is(t, w, group.Back, feed.None, feed.None)
		ticks(w, dead, calm())
		is(t, w, group.Back, feed.Mains, feed.None)
		ticks(w, 1, calm())
		is(t, w, group.Normal, feed.Mains, feed.Mains)
	}
	// A flicker, as long as it is none for good, moves nothing.
	w := begun(t, changed(func(c *conf.Conf) { c.Good = 3 }))
	for range 9 {
		ticks(w, 2, dark())
		is(t, w, group.Normal, feed.Mains, feed.None)
		ticks(w, 1, calm())
	}
	// While a car has a job the switch stays, whatever it wants.
	w = called(t, plain())
	for w.Cars()[0].Job >= 0 {
		if w.At() != feed.Gen {
			t.Fatalf("At = %d: %+v", w.At(), w.Cars())
		}
		w.Tick(both())
	}
	is(t, w, group.Back, feed.None, feed.Gen)
}
