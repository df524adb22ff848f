package group

import (
	"slices"

	"paternoster/api"
	"paternoster/drive"
	"paternoster/feed"
	"paternoster/leaf"
	"paternoster/ledger"
	"paternoster/order"
	"paternoster/phase"
	"paternoster/rates"
	"paternoster/turn"
)

const (
	mostAgain = 3          // how often doors open again, at most
	allFloors = ^uint32(0) // the bits of all floors
)

// tick is what a tick brings, how all was ahead of it, and what came of it.
type tick struct {
	in    In
	ahead []lift
	had   []ledger.Permit
	errs  []api.Errno
	draws []int
}

// parts are those of a tick, in order.
func parts() []func(*World, *tick) {
	return []func(*World, *tick){
		(*World).hear,
		(*World).judge,
		(*World).curb,
		(*World).send,
		(*World).act,
		(*World).count,
		(*World).end,
	}
}

// begun is a tick that begins.
func (w *World) begun(in In) *tick {
	t := &tick{in: in, ahead: slices.Clone(w.lifts), had: w.ledger.L}
	for i := range w.lifts {
		w.lifts[i].fresh = false
	}
	return t
}

// judge is the part in which one finds out how things are.
func (w *World) judge(t *tick) {
	w.power = w.feed.Power(t.in.Mains, t.in.Gen)
	w.told, w.known = w.told.Tell(t.in.Capacity)
	w.sense, _ = w.sense.Step(t.in.Mains, w.conf.Good)
	was := w.mode
	w.mode = w.next()
	switch {
	case w.mode == was:
	case was == Normal:
		w.stallAll()
	case w.mode == Normal:
		w.turnAll(phase.Normal)
		w.turn = turn.None()
	}
}

// next is how things are, after how they were.
func (w *World) next() int {
	good := w.sense.Good
	switch {
	case w.mode == Normal && !good:
		return Lost
	case w.mode == Lost && w.feed.At == feed.Gen:
		return Gen
	case w.mode == Gen && good:
		return Back
	case w.mode == Back && !good:
		return w.without()
	case (w.mode == Lost || w.mode == Back) && good && w.settled():
		return Normal
	}
	return w.mode
}

// settled tells whether mains may bear all again, and nobody frees himself any more.
func (w *World) settled() bool {
	return w.feed.At == feed.Mains && w.each(w.frees) == 0
}

// curb is the part in which permits are taken that aren't borne any more.
func (w *World) curb(*tick) {
	w.giveBack()
	fit, taken := w.ledger.Fit(w.known)
	w.ledger = fit
	for _, i := range taken {
		w.lifts[i].stall()
	}
	if w.power != feed.Gen {
		w.takeAll()
	}
}

// takeAll takes all permits, as nothing bears them.
func (w *World) takeAll() {
	// One by one: a budget of 0 alone would leave those of a Peak of 0.
	for _, p := range w.ledger.L {
		w.ledger, _ = w.ledger.Give(p.Car)
		w.lifts[p.Car].stall()
	}
	w.ledger, _ = w.ledger.Fit(0)
}

// send is the part in which cars are given jobs.
func (w *World) send(t *tick) {
	switch {
	case w.isWell():
		for i := range w.lifts {
			w.seek(i)
		}
	case w.mode != Gen || w.power != feed.Gen || w.busy():
	case w.any(phase.Stalled) || w.any(phase.Recall):
		w.recall(t)
	default:
		w.serve(t)
	}
}

// seek gives a car a job, if it has none, where all is well.
func (w *World) seek(i int) {
	l := &w.lifts[i]
	switch {
	case l.isOut() || !l.isIdle() || l.Vel != 0:
	case l.isBetween():
		l.take(l.Floor())
	case l.gate.Ready(l.doors):
		if floor := w.called(i, w.unserved(i)); floor != none {
			l.take(floor)
		}
	}
}

// called is the floor to which a car is called; a call to where it stands with wide doors is done at once.
func (w *World) called(i int, halls uint32) int {
	l := w.lifts[i]
	floor := w.calls.Next(i, l.Pos, halls)
	if floor == none || !l.isAt(floor) {
		return floor
	}
	w.calls = w.calls.Done(i, floor, true)
	return none
}

// unserved are the bits of floors that are no other car's job.
func (w *World) unserved(i int) uint32 {
	bits := allFloors
	for k, l := range w.lifts {
		if k != i && !l.isIdle() {
			bits &^= 1 << l.job
		}
	}
	return bits
}

// recall recalls the first car in order that may be, if it is borne.
func (w *World) recall(t *tick) {
	stands := func(i int) bool {
		l := w.lifts[i]
		return l.phase == phase.Stalled && t.ahead[i].phase == phase.Stalled && l.Vel == 0 && !w.frees(i)
	}
	i := order.Next(w.conf.Order, ^w.each(stands), 0)
	if i < 0 || !w.grant(i, w.conf.Home) {
		return
	}
	w.park(none)
	w.lifts[i].turnTo(phase.Recall)
	w.turn = turn.None()
}

// serve lets the car serve whose turn it is.
func (w *World) serve(t *tick) {
	ready := func(i int) bool { return w.lifts[i].isReady() && t.ahead[i].isReady() }
	w.turn = w.turn.Step(w.each(ready), false, w.conf.Turn)
	i := w.turn.Car
	w.park(i)
	if i < 0 {
		return
	}
	l := &w.lifts[i]
	l.turnTo(phase.Serving)
	if !l.gate.Ready(l.doors) {
		return
	}
	if floor := w.called(i, allFloors); floor != none {
		w.grant(i, floor)
	}
}

// park makes all cars that serve, but one, Parked.
func (w *World) park(but int) {
	for i := range w.lifts {
		if l := &w.lifts[i]; i != but && l.phase == phase.Serving {
			l.turnTo(phase.Parked)
		}
	}
}

// grant gives a car a job, if it may draw what the way there takes.
func (w *World) grant(i, floor int) bool {
	granted, err := w.ledger.Grant(i, w.peak(i, drive.Way(w.lifts[i].Car, floor)))
	if err != api.OK {
		return false
	}
	w.ledger = granted
	w.lifts[i].take(floor)
	return true
}

// act is the part in which cars, and their doors, do what they are told, and may.
func (w *World) act(t *tick) {
	for i := range w.lifts {
		l := &w.lifts[i]
		blocked := order.Has(t.in.Blocked, i)
		l.again = l.again && w.mode == Normal
		d := l.may(w.deed(i))
		if w.goes(i) || w.isWell() && d.what == leaf.Opens {
			t.draws = append(t.draws, l.draw(d, w.rates(i), w.conf.Floors))
		}
		if w.mode == Normal && d.what == leaf.Shuts {
			l.gate, l.again = l.gate.Again(l.doors, blocked, mostAgain)
		}
		l.do(d, blocked, w.conf.Floors)
		l.again = l.again && !l.doors.Wide()
	}
}

// deed is what a car is told.
func (w *World) deed(i int) deed {
	l := w.lifts[i]
	switch {
	case l.isOut():
		return rest()
	case w.goes(i):
		return l.going(w.conf.Speed)
	case w.isWell() && l.isIdle() && l.Level():
		return l.doorsTo(true)
	case w.frees(i):
		return l.freeing(w.light(i), w.conf.Cost)
	}
	return rest()
}

// count is the part in which what is drawn is metered, and what is waited for is counted.
func (w *World) count(t *tick) {
	w.meter.Tick(t.draws...)
	for i := range w.lifts {
		l := &w.lifts[i]
		l.gate = l.gate.Step(t.ahead[i].doors, l.doors, w.conf.Dwell)
		if w.isWell() {
			l.cell = l.cell.Fill(1)
		}
	}
}

// end is the part in which jobs end, and what changed is kept.
func (w *World) end(t *tick) {
	for i := range w.lifts {
		w.arrive(i)
	}
	w.giveBack()
	if !slices.Equal(w.ledger.L, t.had) {
		w.journal = w.journal.Write(w.ledger)
	}
	w.feed = w.feed.Step(w.want(t.in.Gen), !w.busy(), w.conf.Dead)
}

// arrive ends a car's job, if it is where it should go.
func (w *World) arrive(i int) {
	l := &w.lifts[i]
	if l.isIdle() || l.fresh || !l.isAt(l.job) {
		return
	}
	recalled := l.phase == phase.Recall
	w.calls = w.calls.Done(i, l.job, !recalled)
	l.drop()
	if recalled {
		l.turnTo(phase.Parked)
	}
}

// want is where the switch should stand.
func (w *World) want(gen bool) int {
	switch {
	case w.sense.Good:
		return feed.Mains
	case gen:
		return feed.Gen
	}
	return w.feed.At
}

// giveBack gives back the permits of cars without a job.
func (w *World) giveBack() {
	for i, l := range w.lifts {
		if l.isIdle() {
			w.ledger, _ = w.ledger.Give(i)
		}
	}
}

// stallAll stalls all cars.
func (w *World) stallAll() {
	for i := range w.lifts {
		w.lifts[i].stall()
	}
}

// turnAll turns all cars that aren't out of order to a phase.
func (w *World) turnAll(p int) {
	for i := range w.lifts {
		w.lifts[i].turnTo(p)
	}
}

// isWell tells whether all is well, and mains bear it.
func (w *World) isWell() bool { return w.mode == Normal && w.power == feed.Mains }

// goes tells whether a car is let go to its job.
func (w *World) goes(i int) bool {
	_, has := w.ledger.Has(i)
	return !w.lifts[i].isIdle() && (w.isWell() || has && w.power == feed.Gen)
}

// frees tells whether a car frees itself by its battery.
func (w *World) frees(i int) bool {
	l, way := w.lifts[i], w.light(i)
	return w.mode != Normal && !l.isOut() && l.isIdle() && !l.boards() &&
		(l.Vel == 0 || l.Vel == way) && l.cell.Can(w.conf.Cost*(l.Near(way)+l.doors.Left()))
}

// light is the way that a car goes by itself.
func (w *World) light(i int) int { return w.lifts[i].Light(w.rates(i).Weight) }

// rates are those of a car's bank.
func (w *World) rates(i int) rates.Rates { return w.conf.Banks[w.conf.Bank(i)].Rates }

// peak is the most that a car draws on a way.
func (w *World) peak(i, way int) int { return w.tables[w.conf.Bank(i)].Peak(w.lifts[i].Load, way) }

// has tells whether there is such a car.
func (w *World) has(i int) bool { return 0 <= i && i < len(w.lifts) }

// busy tells whether a car has a job.
func (w *World) busy() bool {
	return slices.ContainsFunc(w.lifts, func(l lift) bool { return !l.isIdle() })
}

// any tells whether a car is in a phase.
func (w *World) any(p int) bool {
	return slices.ContainsFunc(w.lifts, func(l lift) bool { return l.phase == p })
}

// bits are those of the cars of which something is so.
func (w *World) bits(is func(lift) bool) uint64 {
	return w.each(func(i int) bool { return is(w.lifts[i]) })
}

// each are the bits of the cars of whose place something is so.
func (w *World) each(is func(i int) bool) uint64 {
	var bits uint64
	for i := range w.lifts {
		if is(i) {
			bits = order.With(bits, i)
		}
	}
	return bits
}
