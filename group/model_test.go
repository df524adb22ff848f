package group_test

import (
	"bytes"
	"slices"
	"testing"

	"paternoster/api"
	"paternoster/calls"
	"paternoster/car"
	"paternoster/cell"
	"paternoster/conf"
	"paternoster/drive"
	"paternoster/feed"
	"paternoster/gate"
	"paternoster/group"
	"paternoster/journal"
	"paternoster/leaf"
	"paternoster/ledger"
	"paternoster/lock"
	"paternoster/mend"
	"paternoster/phase"
	"paternoster/rates"
	"paternoster/sense"
	"paternoster/turn"
)

// kept is what a world has for each car, as the chapter's words tell it.
type kept struct {
	car    car.Car
	doors  leaf.Leaf
	cell   cell.Cell
	gate   gate.Gate
	rates  rates.Rates
	phase  int
	before int // its phase ahead of this tick
	job    int
	fresh  bool
	again  bool
}

// model is a world, as the chapter's words tell it, promise by promise.
type model struct {
	conf    conf.Conf
	cars    []*kept
	at      feed.Feed
	told    []int // all capacities so far, the last one first
	known   int
	sense   sense.Sense
	ledger  ledger.Ledger
	ahead   []ledger.Permit
	journal journal.Journal
	turn    turn.Turn
	calls   calls.Calls
	mode    int
	power   int
	drawn   int
}

// modelOf is the model of a world at first.
func modelOf(c conf.Conf) *model {
	m := &model{conf: c, at: feed.Feed{At: 1}, sense: sense.Sense{Good: true}, turn: turn.Turn{Car: -1}}
	for _, b := range c.Banks {
		for range b.Cars {
			m.cars = append(m.cars, &kept{
				doors: leaf.Leaf{Open: c.Width, Width: c.Width},
				cell:  cell.Cell{Have: c.Full, Full: c.Full},
				rates: b.Rates,
				job:   -1,
			})
		}
	}
	m.calls = calls.New(len(m.cars))
	return m
}

// peakOf is the greatest draw of a load that goes a way.
func peakOf(k *kept, way int) int {
	most := 0
	for _, what := range []int{rates.Gain, rates.Even, rates.Slow, rates.Door} {
		most = max(most, rates.Draw(k.rates, what, k.car.Load, way))
	}
	return most
}

// wide tells whether a car stands at a floor with wide doors.
func (k *kept) wide() bool {
	return k.car.Vel == 0 && k.car.Pos%8 == 0 && k.doors.Open == k.doors.Width
}

// way is that which a car goes by itself.
func (k *kept) way() int {
	if k.car.Load < k.rates.Weight {
		return 1
	}
	return -1
}

// frees is whether a car frees itself.
func (m *model) frees(k *kept) bool {
	if m.mode == group.Normal || k.phase == phase.Out || k.job >= 0 || k.wide() {
		return false
	}
	if k.car.Vel != 0 && k.car.Vel != k.way() {
		return false
	}
	near := 0
	if k.car.Pos%8 != 0 {
		near = k.car.Pos % 8
		if k.way() == 1 {
			near = 8 - near
		}
	}
	return m.conf.Cost*(near+k.doors.Width-k.doors.Open) <= k.cell.Have
}

// goes is whether a car goes.
func (m *model) goes(i int) bool {
	if m.cars[i].job < 0 {
		return false
	}
	if m.mode == group.Normal && m.power == feed.Mains {
		return true
	}
	for _, p := range m.ledger.L {
		if p.Car == i && m.power == feed.Gen {
			return true
		}
	}
	return false
}

// busy is whether a car has a job.
func (m *model) busy() bool {
	for _, k := range m.cars {
		if k.job >= 0 {
			return true
		}
	}
	return false
}

// count is how many cars are in a phase.
func (m *model) count(p int) int {
	n := 0
	for _, k := range m.cars {
		if k.phase == p {
			n++
		}
	}
	return n
}

// ready are the cars that are, and, if that is asked for, were, Parked or Serving.
func (m *model) ready(were bool) uint64 {
	var bits uint64
	for i, k := range m.cars {
		is := k.phase == phase.Parked || k.phase == phase.Serving
		was := k.before == phase.Parked || k.before == phase.Serving
		if is && (was || !were) {
			bits += 1 << i
		}
	}
	return bits
}

// stall leaves a car without a job, Stalled unless it is Out.
func (m *model) stall(k *kept) {
	k.job = -1
	if k.phase != phase.Out {
		k.phase = phase.Stalled
	}
}

// tick is a tick.
func (m *model) tick(in group.In) []api.Errno {
	m.ahead = slices.Clone(m.ledger.L)
	for _, k := range m.cars {
		k.before, k.fresh = k.phase, false
	}
	var errs []api.Errno
	for _, e := range in.Events {
		errs = append(errs, m.event(e))
	}
	m.modes(in)
	m.permits()
	if m.mode == group.Normal && m.power == feed.Mains {
		for i := range m.cars {
			m.normalJob(i)
		}
	}
	if m.mode == group.Gen && m.power == feed.Gen && !m.busy() {
		m.genJob()
	}
	m.drawn = 0
	for i := range m.cars {
		m.move(i, in)
	}
	m.ends(in)
	return errs
}

// event is P23.2.
func (m *model) event(e group.Event) api.Errno {
	isCar := e.Car >= 0 && e.Car < len(m.cars)
	isFloor := e.N >= 0 && e.N < m.conf.Floors
	switch e.Kind {
	case group.Hall:
		if !isFloor {
			return api.ErrNone
		}
		m.calls.Halls |= 1 << e.N
	case group.Call:
		if !isCar || !isFloor {
			return api.ErrNone
		}
		m.calls.Cars[e.Car] |= 1 << e.N
	case group.Load, group.Fault, group.Reset, group.Pick:
		if !isCar {
			return api.ErrNone
		}
		return m.ofCar(e.Kind, e.Car, e.N)
	case group.Restart:
		m.restart(e.N)
	default:
		return api.ErrNone
	}
	return api.OK
}

// ofCar is P23.2's Load to Pick.
func (m *model) ofCar(kind, i, n int) api.Errno {
	k := m.cars[i]
	switch kind {
	case group.Load:
		if n < 0 || n > 64 {
			return api.ErrArg
		}
		if k.job >= 0 || !k.wide() {
			return api.ErrState
		}
		k.car.Load = n
	case group.Fault:
		k.phase, k.job = phase.Out, -1
	case group.Reset:
		if k.phase != phase.Out || k.car.Vel != 0 {
			return api.ErrState
		}
		k.phase = phase.Stalled
		if m.mode == group.Normal {
			k.phase = phase.Normal
		}
	case group.Pick:
		if k.phase == phase.Out {
			return api.ErrFault
		}
		if m.mode != group.Gen || m.busy() || k.phase != phase.Parked && k.phase != phase.Serving {
			return api.ErrState
		}
		m.turn = turn.Turn{Car: i, Left: m.conf.Turn}
	}
	return api.OK
}

// restart is P23.2's Restart.
func (m *model) restart(n int) {
	m.journal = m.journal.Tear(n)
	var moving []mend.Moving
	for i, k := range m.cars {
		if k.car.Vel > 0 {
			moving = append(moving, mend.Moving{Car: i, Peak: peakOf(k, 1)})
		}
		if k.car.Vel < 0 {
			moving = append(moving, mend.Moving{Car: i, Peak: peakOf(k, -1)})
		}
	}
	m.ledger, _ = mend.Again(m.journal, moving, m.known)
	for _, k := range m.cars {
		m.stall(k)
	}
	m.turn = turn.Turn{Car: -1}
	m.sense = sense.Sense{}
	m.mode = group.Lost
	if m.at.At == feed.Gen {
		m.mode = group.Gen
	}
}

// modes is P23.3.
func (m *model) modes(in group.In) {
	m.power = feed.None
	if m.at.At == feed.Mains && in.Mains {
		m.power = feed.Mains
	}
	if m.at.At == feed.Gen && in.Gen {
		m.power = feed.Gen
	}
	m.told = append([]int{max(0, min(in.Capacity, 1<<20))}, m.told...)
	m.known = 0
	if m.conf.Lag < len(m.told) {
		m.known = m.told[m.conf.Lag]
	}
	m.sense, _ = m.sense.Step(in.Mains, m.conf.Good)
	freeing := false
	for _, k := range m.cars {
		freeing = freeing || m.frees(k)
	}
	back := m.at.At == feed.Mains && !freeing
	was := m.mode
	switch was {
	case group.Normal:
		if !m.sense.Good {
			m.mode = group.Lost
			for _, k := range m.cars {
				m.stall(k)
			}
		}
	case group.Lost:
		if m.at.At == feed.Gen {
			m.mode = group.Gen
		} else if m.sense.Good && back {
			m.mode = group.Normal
		}
	case group.Gen:
		if m.sense.Good {
			m.mode = group.Back
		}
	case group.Back:
		if !m.sense.Good && m.at.At == feed.Gen {
			m.mode = group.Gen
		} else if !m.sense.Good {
			m.mode = group.Lost
		} else if back {
			m.mode = group.Normal
		}
	}
	if was != group.Normal && m.mode == group.Normal {
		for _, k := range m.cars {
			if k.phase != phase.Out {
				k.phase = phase.Normal
			}
		}
		m.turn = turn.Turn{Car: -1}
	}
}

// gives is the permits of cars without a job, given back.
func (m *model) gives() {
	m.ledger.L = slices.DeleteFunc(slices.Clone(m.ledger.L), func(p ledger.Permit) bool { return m.cars[p.Car].job < 0 })
}

// permits is P23.4.
func (m *model) permits() {
	m.gives()
	m.ledger.Budget = m.known
	if m.power != feed.Gen {
		m.ledger.Budget = 0
	}
	for n := len(m.ledger.L); n > 0 && (m.ledger.Sum() > m.ledger.Budget || m.power != feed.Gen); n-- {
		m.stall(m.cars[m.ledger.L[n-1].Car])
		m.ledger.L = m.ledger.L[:n-1]
	}
}

// normalJob is P23.5 in Normal.
func (m *model) normalJob(i int) {
	k := m.cars[i]
	if k.phase == phase.Out || k.job >= 0 || k.car.Vel != 0 {
		return
	}
	if k.car.Pos%8 != 0 {
		k.job, k.fresh = k.car.Pos/8, true
		return
	}
	if !k.gate.Ready(k.doors) {
		return
	}
	var halls uint32
	for floor := range m.conf.Floors {
		if !slices.ContainsFunc(m.cars, func(x *kept) bool { return x != k && x.job == floor }) {
			halls |= 1 << floor
		}
	}
	floor := m.calls.Next(i, k.car.Pos, halls)
	if floor >= 0 && floor*8 == k.car.Pos && k.wide() {
		m.calls = m.calls.Done(i, floor, true)
	} else if floor >= 0 {
		k.job, k.fresh = floor, true
	}
}

// genJob is P23.5 in Gen.
func (m *model) genJob() {
	for _, i := range m.conf.Order {
		k := m.cars[i]
		if k.phase != phase.Stalled || k.before != phase.Stalled || k.car.Vel != 0 || m.frees(k) {
			continue
		}
		if m.grant(i, m.conf.Home) {
			for _, x := range m.cars {
				if x.phase == phase.Serving {
					x.phase = phase.Parked
				}
			}
			k.phase = phase.Recall
			m.turn = turn.Turn{Car: -1}
		}
		return
	}
	if m.count(phase.Stalled) > 0 || m.count(phase.Recall) > 0 {
		return
	}
	m.turn = m.turn.Step(m.ready(true), false, m.conf.Turn)
	for i, k := range m.cars {
		if i == m.turn.Car {
			k.phase = phase.Serving
		} else if k.phase == phase.Serving {
			k.phase = phase.Parked
		}
	}
	if m.turn.Car < 0 {
		return
	}
	k := m.cars[m.turn.Car]
	if !k.gate.Ready(k.doors) {
		return
	}
	floor := m.calls.Next(m.turn.Car, k.car.Pos, 1<<32-1)
	if floor >= 0 && floor*8 == k.car.Pos && k.wide() {
		m.calls = m.calls.Done(m.turn.Car, floor, true)
	} else if floor >= 0 {
		m.grant(m.turn.Car, floor)
	}
}

// grant is a permit, and a job, of a car.
func (m *model) grant(i, floor int) bool {
	k := m.cars[i]
	way := 0
	if floor*8 > k.car.Pos {
		way = 1
	}
	if floor*8 < k.car.Pos {
		way = -1
	}
	peak := peakOf(k, way)
	if m.ledger.Sum()+peak > m.ledger.Budget {
		return false
	}
	m.ledger.L = append(slices.Clone(m.ledger.L), ledger.Permit{Car: i, Peak: peak})
	k.job, k.fresh = floor, true
	return true
}

// move is P23.6 and P23.7 of a car.
func (m *model) move(i int, in group.In) {
	k := m.cars[i]
	normal := m.mode == group.Normal
	goes, frees := m.goes(i), m.frees(k)
	opens := !goes && normal && m.power == feed.Mains && k.job < 0 && k.car.Vel == 0 && k.car.Pos%8 == 0 && k.phase != phase.Out
	if !normal {
		k.again = false
	}
	vel, brake, what := 0, true, leaf.Hold
	open := func(is bool) { what = gate.What(k.car, k.doors, is, true) }
	switch {
	case k.phase == phase.Out:
	case goes && (k.again || drive.There(k.car, k.job)):
		open(true)
	case goes && k.doors.Open > 0:
		open(false)
	case goes:
		vel, brake = drive.Vel(k.car, k.job, m.conf.Speed, true)
	case opens:
		open(true)
	case frees && k.car.Pos%8 != 0:
		vel, brake = k.way(), false
		k.cell.Have -= m.conf.Cost
	case frees && k.car.Vel == 0:
		open(true)
		k.cell.Have -= m.conf.Cost
	}
	vel, brake, what = lock.Does(k.car, k.doors, vel, brake, what)
	blocked := in.Blocked>>i&1 == 1
	if normal && what == leaf.Shuts {
		g, is := k.gate.Again(k.doors, blocked, 3)
		k.gate, k.again = g, is
	}
	does, was := drive.What(k.car, vel, brake), k.doors
	k.car = k.car.Step(vel, brake, m.conf.Floors)
	k.doors = k.doors.Step(what, blocked)
	if k.doors.Open == k.doors.Width {
		k.again = false
	}
	if goes || opens {
		if what != leaf.Hold {
			does = rates.Door
		}
		m.drawn += rates.Draw(k.rates, does, k.car.Load, k.car.Vel)
	}
	k.gate = k.gate.Step(was, k.doors, m.conf.Dwell)
	if normal && m.power == feed.Mains && k.cell.Have < k.cell.Full {
		k.cell.Have++
	}
}

// ends is P23.8.
func (m *model) ends(in group.In) {
	for i, k := range m.cars {
		if k.job < 0 || k.fresh || k.car.Pos != k.job*8 || !k.wide() {
			continue
		}
		m.calls = m.calls.Done(i, k.job, k.phase != phase.Recall)
		k.job = -1
		if k.phase == phase.Recall {
			k.phase = phase.Parked
		}
	}
	m.gives()
	if !slices.Equal(m.ahead, m.ledger.L) {
		m.journal = m.journal.Write(m.ledger)
	}
	want := m.at.At
	if m.sense.Good {
		want = feed.Mains
	} else if in.Gen {
		want = feed.Gen
	}
	m.at = m.at.Step(want, !m.busy(), m.conf.Dead)
}

// seen are the cars, as they are seen.
func (m *model) seen() []group.Seen {
	var l []group.Seen
	for _, k := range m.cars {
		l = append(l, group.Seen{
			Phase: k.phase, Pos: k.car.Pos, Vel: k.car.Vel, Open: k.doors.Open,
			Load: k.car.Load, Have: k.cell.Have, Job: k.job, Frees: m.frees(k),
		})
	}
	return l
}

// alike tells of a world that isn't as the words say.
func alike(t *testing.T, w *group.World, m *model) {
	t.Helper()
	if got, want := w.Cars(), m.seen(); !slices.Equal(got, want) {
		t.Fatalf("Cars = %+v, want %+v", got, want)
	}
	got := []int{w.Mode(), w.At(), w.Power(), w.Drawn(), w.Serves()}
	if want := []int{m.mode, m.at.At, m.power, m.drawn, m.turn.Car}; !slices.Equal(got, want) {
		t.Fatalf("Mode, At, Power, Drawn, Serves = %v, want %v", got, want)
	}
	if l := w.Ledger(); !sameLedger(l, m.ledger) {
		t.Fatalf("Ledger = %+v, want %+v", l, m.ledger)
	}
	if c := w.Calls(); c.Halls != m.calls.Halls || !slices.Equal(c.Cars, m.calls.Cars) {
		t.Fatalf("Calls = %+v, want %+v", c, m.calls)
	}
	if s := w.Slots(); !slices.EqualFunc(s, m.journal.Slots(), bytes.Equal) {
		t.Fatalf("Slots = %v, want %v", s, m.journal.Slots())
	}
}

// sameLedger tells whether two ledgers are the same; nil and empty lists are one.
func sameLedger(a, b ledger.Ledger) bool {
	return a.Budget == b.Budget && a.Margin == b.Margin && a.Credit == b.Credit && slices.Equal(a.L, b.L)
}
