package group_test

import (
	"math/bits"
	"slices"
	"testing"

	"paternoster/conf"
	"paternoster/feed"
	"paternoster/group"
	"paternoster/phase"
)

// P23.9: what "The whole" tells.

// phasesOf are the phases of all cars.
func phasesOf(w *group.World) []int {
	var l []int
	for _, s := range w.Cars() {
		l = append(l, s.Phase)
	}
	return l
}

// rests tells whether a car stands at a floor with wide doors.
func rests(s group.Seen, c conf.Conf) bool { return s.Vel == 0 && s.Pos%8 == 0 && s.Open == c.Width }

// Q1 and Q3, whatever happens.
func TestBudgetDoorsAndPhases(t *testing.T) {
	var gen, full int // ticks in which the generator bore something, and in which it was just borne
	for seed := range 600 {
		d := drawn(seed + 10000)
		c := d.confOf()
		w := begun(t, c)
		f := d.flowOf(c)
		told := make([]int, c.Lag)
		rows := [][]int{phasesOf(w)}
		for tick := range 400 {
			in := f.next(&d, c)
			before := w.Cars()
			w.Tick(in)
			told = append(told, max(0, in.Capacity))
			declared := told[len(told)-1-c.Lag]
			if w.Power() == feed.Gen && w.Drawn() > declared {
				t.Fatalf("seed %d, tick %d: %d drawn of %d", seed, tick, w.Drawn(), declared)
			}
			if w.Power() == feed.Gen && w.Drawn() > 0 {
				gen++
			}
			if w.Power() == feed.Gen && w.Drawn() > 0 && w.Drawn() == declared {
				full++
			}
			for i, s := range w.Cars() {
				if s.Open > 0 && (s.Vel != 0 || s.Pos%8 != 0 || s.Pos != before[i].Pos) {
					t.Fatalf("seed %d, tick %d: car %d moves with open doors: %+v", seed, tick, i, s)
				}
				if s.Pos != before[i].Pos && before[i].Open > 0 {
					t.Fatalf("seed %d, tick %d: car %d moved with open doors: %+v", seed, tick, i, before[i])
				}
			}
			rows = append(rows, phasesOf(w))
		}
		if n := phase.Accept(rows); n != len(rows) {
			t.Fatalf("seed %d: %v, then %v in tick %d", seed, rows[n-1], rows[n], n-1)
		}
	}
	if gen < 1000 || full < 10 {
		t.Errorf("the generator bore something in %d ticks only, all that it could in %d", gen, full)
	}
}

// someTicks are ticks in which all is well, and in which people come and go.
func someTicks(w *group.World, d *drawn, c conf.Conf) {
	for range d.upTo(4 * conf.Run(c)) {
		in := group.In{Mains: true}
		if d.oneIn(3) {
			e := d.eventOf(c)
			if e.Kind <= group.Load {
				in.Events = append(in.Events, e)
			}
			if e.Kind == group.Fault && d.oneIn(10) {
				in.Events = append(in.Events, e)
			}
		}
		w.Tick(in)
	}
}

// hinder blocks doors now and then; how many ticks that makes for one car.
func hinder(in *group.In, d *drawn, most, soFar int) int {
	if soFar >= most || !d.oneIn(4) {
		return soFar
	}
	in.Blocked = uint64(d.upTo(1<<24 - 1))
	return soFar + bits.OnesCount64(in.Blocked)
}

// freedBy tells of a car that isn't freed within Limit, as mains are gone for good.
func freedBy(t *testing.T, seed int, w *group.World, d *drawn, c conf.Conf, in group.In) {
	t.Helper()
	freed := make([]bool, conf.Cars(c))
	blocked, most := 0, d.upTo(40)
	for tick := 0; tick <= conf.Limit(c, blocked); tick++ {
		x := in
		blocked = hinder(&x, d, most, blocked)
		if d.oneIn(4) {
			if e := d.eventOf(c); e.Kind <= group.Call {
				x.Events = append(x.Events, e)
			}
		}
		w.Tick(x)
		for i, s := range w.Cars() {
			freed[i] = freed[i] || rests(s, c) && s.Phase != phase.Normal || s.Phase == phase.Out
		}
	}
	if slices.Contains(freed, false) {
		t.Fatalf("seed %d: %+v, %+v: freed are %v of %+v", seed, c, in, freed, w.Cars())
	}
}

// Q2, by the generator.
func TestFreedByTheGenerator(t *testing.T) {
	for seed := range 1500 {
		d := drawn(seed + 20000)
		c := d.confOf()
		w := begun(t, c)
		someTicks(w, &d, c)
		freedBy(t, seed, w, &d, c, group.In{Gen: true, Capacity: conf.Most(c)})
	}
}

// Q2, by batteries.
func TestFreedByBatteries(t *testing.T) {
	for seed := range 1500 {
		d := drawn(seed + 30000)
		c := d.confOf()
		c.Full = conf.Saves(c) + d.upTo(3)
		w := begun(t, c)
		someTicks(w, &d, c)
		freedBy(t, seed, w, &d, c, group.In{Gen: d.oneIn(2), Capacity: d.upTo(3)})
	}
}

// forgotten tells of a car that isn't as far as it was, or stalled, where all is forgotten.
func forgotten(t *testing.T, seed int, was, s group.Seen) {
	t.Helper()
	bad := s.Load != was.Load
	switch {
	case s.Phase == phase.Recall:
		// Whoever was Stalled already may be recalled in the same tick.
		bad = bad || was.Phase != phase.Stalled
	case s.Phase == phase.Out:
		bad = bad || was.Phase != phase.Out || s.Job >= 0 || s.Pos != was.Pos || s.Open != was.Open || s.Vel != 0
	case s.Phase != phase.Stalled || s.Job >= 0:
		bad = true
	case s.Have == was.Have && was.Pos%8 != 0 && !s.Frees:
		bad = bad || s.Pos != was.Pos || s.Vel != 0
	}
	if bad {
		t.Fatalf("seed %d: %+v, then %+v", seed, was, s)
	}
}

// Q4: wherever all is forgotten, cars are as far as they were, or stalled, and all goes on.
func TestRestarts(t *testing.T) {
	for seed := range 1500 {
		d := drawn(seed + 40000)
		c := d.confOf()
		w := begun(t, c)
		f := d.flowOf(c)
		f.calm = true
		for range d.upTo(300) {
			w.Tick(f.next(&d, c))
		}
		before, phases := w.Cars(), phasesOf(w)
		w.Tick(group.In{Gen: true, Capacity: conf.Most(c), Events: []group.Event{{Kind: group.Restart, N: d.upTo(60)}}})
		for i, s := range w.Cars() {
			forgotten(t, seed, before[i], s)
		}
		if !phase.Follows(phases, phasesOf(w)) {
			t.Fatalf("seed %d: %v, then %v", seed, phases, phasesOf(w))
		}
		if d.oneIn(2) {
			freedBy(t, seed, w, &d, c, group.In{Gen: true, Capacity: conf.Most(c)})
		} else {
			backBy(t, seed, w, &d, c)
		}
	}
}

// isBack tells whether all is as before.
func isBack(w *group.World) bool {
	for _, p := range phasesOf(w) {
		if p != phase.Normal && p != phase.Out {
			return false
		}
	}
	return w.Mode() == group.Normal && w.At() == feed.Mains
}

// backBy tells of a world that isn't as before within Back ticks, as mains came back for good, or of a car that was cut off.
func backBy(t *testing.T, seed int, w *group.World, d *drawn, c conf.Conf) {
	t.Helper()
	blocked, most := 0, d.upTo(40)
	lag := c.Lag + 1
	for tick := 0; tick <= conf.Back(c, blocked); tick++ {
		in := group.In{Mains: true, Gen: true, Capacity: conf.Most(c)}
		blocked = hinder(&in, d, most, blocked)
		before := w.Cars()
		w.Tick(in)
		for i, s := range w.Cars() {
			// What the generator can was told long enough ago from lag on.
			if was := before[i]; tick >= lag && was.Job >= 0 && s.Phase == phase.Stalled {
				t.Fatalf("seed %d: car %d was cut off: %+v, then %+v", seed, i, was, s)
			}
		}
	}
	if !isBack(w) {
		t.Fatalf("seed %d: %+v: mode %d, at %d: %+v", seed, c, w.Mode(), w.At(), w.Cars())
	}
}

// Q5: back.
func TestBack(t *testing.T) {
	var outages int
	for seed := range 1500 {
		d := drawn(seed + 50000)
		c := d.confOf()
		w := begun(t, c)
		someTicks(w, &d, c)
		in := group.In{Gen: !d.oneIn(4), Capacity: conf.Most(c)}
		for range d.upTo(3 * conf.Limit(c, 0)) {
			x := in
			if d.oneIn(4) {
				if e := d.eventOf(c); e.Kind <= group.Load {
					x.Events = append(x.Events, e)
				}
			}
			w.Tick(x)
		}
		if w.Mode() != group.Normal {
			outages++
		}
		backBy(t, seed, w, &d, c)
	}
	if outages < 1000 {
		t.Errorf("mains failed in %d worlds only", outages)
	}
}

// Q5: a flicker changes nothing: cars stand as long as it lasts, and go on as they would have from there.
func TestFlicker(t *testing.T) {
	var stood int
	for seed := range 1500 {
		d := drawn(seed + 60000)
		c := d.confOf()
		w := begun(t, c)
		someTicks(w, &d, c)
		before, waiting := w.Cars(), w.Calls()
		for range c.Good - 1 {
			w.Tick(group.In{Gen: d.oneIn(2), Capacity: d.upTo(100)})
		}
		for i, s := range w.Cars() {
			want := before[i]
			if c.Good > 1 {
				want.Vel = 0
			}
			if s != want {
				t.Fatalf("seed %d: car %d: %+v, then %+v", seed, i, before[i], s)
			}
			if s.Job >= 0 && c.Good > 1 {
				stood++
			}
		}
		if got := w.Calls(); got.Halls != waiting.Halls || !slices.Equal(got.Cars, waiting.Cars) {
			t.Fatalf("seed %d: %+v, then %+v", seed, waiting, got)
		}
		if w.Mode() != group.Normal || w.At() != feed.Mains || len(w.Ledger().L) > 0 || w.Serves() != -1 {
			t.Fatalf("seed %d: mode %d, at %d, %+v", seed, w.Mode(), w.At(), w.Ledger())
		}
		// Mains are there again: whoever had a job goes on to it.
		before = w.Cars()
		w.Tick(group.In{Mains: true})
		for i, s := range w.Cars() {
			if was := before[i]; was.Job >= 0 && s.Job >= 0 && s.Job != was.Job || s.Phase != was.Phase {
				t.Fatalf("seed %d: car %d: %+v, then %+v", seed, i, was, s)
			}
		}
	}
	if stood < 300 {
		t.Errorf("%d cars only had a job as mains flickered", stood)
	}
}
