package group_test

import (
	"slices"
	"testing"

	"paternoster/api"
	"paternoster/conf"
	"paternoster/group"
	"paternoster/rates"
)

// drawn are numbers that look like chance, and are the same in each run.
type drawn uint32

// upTo is the next number, of 0 to most.
func (d *drawn) upTo(most int) int {
	*d = *d*1664525 + 1013904223
	return int(uint64(*d>>8) % uint64(most+1))
}

// oneIn tells, as often as one time in so many.
func (d *drawn) oneIn(many int) bool { return d.upTo(many-1) == 0 }

// ratesOf are rates that may be.
func (d *drawn) ratesOf() rates.Rates {
	return rates.Rates{Idle: d.upTo(3), Move: d.upTo(9), Gain: d.upTo(9), Pull: d.upTo(2), Door: d.upTo(9), Weight: d.upTo(40)}
}

// confOf is a group that may be.
func (d *drawn) confOf() conf.Conf {
	c := conf.Conf{
		Floors: 2 + d.upTo(4), Speed: 1 + d.upTo(7), Width: 1 + d.upTo(3), Dwell: 1 + d.upTo(4),
		Good: 1 + d.upTo(5), Dead: 1 + d.upTo(3), Turn: 1 + d.upTo(9), Cost: d.upTo(3),
	}
	if d.oneIn(2) {
		c.Lag = d.upTo(8)
	}
	if d.oneIn(10) {
		c.Floors = api.MaxFloors
	}
	c.Home = d.upTo(c.Floors - 1)
	for range 1 + d.upTo(2) {
		c.Banks = append(c.Banks, conf.Bank{Cars: 1 + d.upTo(2), Rates: d.ratesOf()})
	}
	for i := range conf.Cars(c) {
		c.Order = slices.Insert(c.Order, d.upTo(i), i)
	}
	if d.oneIn(2) {
		c.Full = d.upTo(2 * conf.Saves(c))
	}
	return c
}

// eventOf is an event, of cars and floors about those that there are.
func (d *drawn) eventOf(c conf.Conf) group.Event {
	e := group.Event{Kind: d.upTo(7), Car: d.upTo(conf.Cars(c)+1) - 1, N: d.upTo(c.Floors+1) - 1}
	switch {
	case d.oneIn(20):
		e.Kind = d.upTo(100) - 50
	case e.Kind == group.Load:
		e.N = d.upTo(68) - 2
	case e.Kind == group.Restart:
		e.N = d.upTo(60) - 2
	}
	return e
}

// flow is how mains, the generator and whoever is in the way come and go.
type flow struct {
	in      group.In
	left    int // ticks until mains, or the generator, are otherwise
	hurdles int // one in how many ticks has blocked doors
	busy    int // one in how many ticks has an event
	calm    bool
}

// next is the next tick's.
func (f *flow) next(d *drawn, c conf.Conf) group.In {
	if f.left--; f.left < 0 {
		f.left = d.upTo(3 * c.Good)
		if d.oneIn(2) {
			f.left = d.upTo(3 * conf.Run(c))
		}
		f.in.Mains = d.oneIn(2)
		f.in.Gen = !d.oneIn(4)
		f.in.Capacity = d.upTo(2*conf.Most(c)+2) - 1
		if d.oneIn(2) {
			f.in.Capacity = conf.Most(c)
		}
	}
	in := f.in
	if d.oneIn(f.hurdles) {
		in.Blocked = uint64(d.upTo(1 << 10))
	}
	for d.oneIn(f.busy) {
		e := d.eventOf(c)
		// In a calm run cars are seldom out of order, and seldom all is forgotten.
		if !f.calm || e.Kind < group.Fault || d.oneIn(8) {
			in.Events = append(in.Events, e)
		}
	}
	return in
}

// flowOf is a flow that begins well.
func (d *drawn) flowOf(c conf.Conf) *flow {
	f := &flow{left: d.upTo(3 * conf.Run(c)), hurdles: 2 + d.upTo(10), busy: 2 + d.upTo(5), calm: !d.oneIn(3)}
	f.in = group.In{Mains: true, Gen: true, Capacity: conf.Most(c)}
	return f
}

// begun is a new world of a group that may be.
func begun(t *testing.T, c conf.Conf) *group.World {
	t.Helper()
	w, err := group.New(c)
	if err != api.OK || w == nil {
		t.Fatalf("New(%+v) = %v, %v", c, w, err)
	}
	return w
}

// asTheWordsSay holds a world against the words of all promises, for so many ticks.
func asTheWordsSay(t *testing.T, seed uint32, ticks int) {
	t.Helper()
	d := drawn(seed)
	c := d.confOf()
	w, m := begun(t, c), modelOf(c)
	alike(t, w, m)
	f := d.flowOf(c)
	for tick := range ticks {
		in := f.next(&d, c)
		if got, want := w.Tick(in), m.tick(in); !slices.Equal(got, want) {
			t.Fatalf("seed %d, tick %d: %+v: Tick = %v, want %v", seed, tick, in, got, want)
		}
		alike(t, w, m)
	}
}

// P23.1 to P23.8

func TestAsTheWordsSay(t *testing.T) {
	for seed := range uint32(600) {
		asTheWordsSay(t, seed, 400)
	}
}

func FuzzAsTheWordsSay(f *testing.F) {
	f.Add(uint32(0), uint16(0))
	f.Add(uint32(1), uint16(900))
	f.Add(uint32(1<<32-1), uint16(5000))
	f.Fuzz(func(t *testing.T, seed uint32, ticks uint16) { asTheWordsSay(t, seed, int(ticks)) })
}

// Whatever is handed in, a tick ends, and without harm.
func TestTicksOfAllKinds(t *testing.T) {
	numbers := []int{least, least + 1, -1 << 32, -1, 0, 1, 2, 63, 64, 1 << 20, 1 << 32, greatest - 1, greatest}
	for _, capacity := range numbers {
		c := plain()
		w, m := begun(t, c), modelOf(c)
		for bits := range 8 {
			in := group.In{Mains: bits&1 == 0, Gen: bits&2 == 0, Capacity: capacity, Blocked: 1<<64 - 1}
			for kind := -1; kind <= 7; kind++ {
				for _, n := range numbers {
					in.Events = append(in.Events, ev(kind, n, n), ev(kind, bits&1, n), ev(kind, n, bits&1))
				}
			}
			for range 5 {
				if got, want := w.Tick(in), m.tick(in); !slices.Equal(got, want) {
					t.Fatalf("%+v: Tick = %v, want %v", in, got, want)
				}
				alike(t, w, m)
			}
		}
	}
}
