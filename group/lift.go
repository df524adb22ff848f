package group

import (
	"paternoster/api"
	"paternoster/car"
	"paternoster/cell"
	"paternoster/drive"
	"paternoster/gate"
	"paternoster/leaf"
	"paternoster/lock"
	"paternoster/phase"
	"paternoster/rates"
)

// lift is a car as it is kept.
type lift struct {
	car.Car
	doors leaf.Leaf
	cell  cell.Cell
	gate  gate.Gate
	phase int
	job   int  // the floor to which it should go
	fresh bool // its job was given in this tick
	again bool // its doors open again
}

// deed is what a car is told to do.
type deed struct {
	vel   int
	brake bool
	what  int // is done with doors
	cost  int // is spent of its battery
}

// first is a car as it is at first.
func first(width, full int) lift {
	return lift{
		doors: leaf.Leaf{Open: width, Width: width},
		cell:  cell.Cell{Have: full, Full: full},
		phase: phase.Normal,
		job:   none,
	}
}

// seen is a car as it is seen.
func (l lift) seen(frees bool) Seen {
	return Seen{
		Phase: l.phase, Pos: l.Pos, Vel: l.Vel, Open: l.doors.Open,
		Load: l.Load, Have: l.cell.Have, Job: l.job, Frees: frees,
	}
}

// isOut tells whether a car is out of order.
func (l lift) isOut() bool { return l.phase == phase.Out }

// isIdle tells whether a car has no job.
func (l lift) isIdle() bool { return l.job == none }

// isReady tells whether a car may serve.
func (l lift) isReady() bool { return l.phase == phase.Parked || l.phase == phase.Serving }

// isAt tells whether a car stands at a floor with wide doors.
func (l lift) isAt(floor int) bool { return drive.There(l.Car, floor) && l.doors.Wide() }

// isBetween tells whether a car is between floors, whether it stands or moves.
func (l lift) isBetween() bool { return l.Pos%api.Rise != 0 }

// boards tells whether somebody may get on, or off.
func (l lift) boards() bool { return l.Level() && l.doors.Wide() }

// take gives a car a job.
func (l *lift) take(floor int) { l.job, l.fresh = floor, true }

// drop takes a car's job.
func (l *lift) drop() { l.job = none }

// turnTo turns a car to another phase; one that is out of order stays so.
func (l *lift) turnTo(p int) {
	if !l.isOut() {
		l.phase = p
	}
}

// stall leaves a car without a job, Stalled unless it is out of order.
func (l *lift) stall() {
	l.drop()
	l.turnTo(phase.Stalled)
}

// rest is what a car does that is told nothing.
func rest() deed { return deed{brake: true, what: leaf.Hold} }

// doorsTo is a deed that is done with doors: they are to open, or to shut.
func (l lift) doorsTo(open bool) deed {
	return deed{brake: true, what: gate.What(l.Car, l.doors, open, true)}
}

// going is what a car is told that goes to its job.
func (l lift) going(speed int) deed {
	switch {
	case l.again || drive.There(l.Car, l.job):
		return l.doorsTo(true)
	case !l.doors.Shut():
		return l.doorsTo(false)
	}
	vel, brake := drive.Vel(l.Car, l.job, speed, true)
	return deed{vel: vel, brake: brake, what: leaf.Hold}
}

// freeing is what a car is told that frees itself.
func (l lift) freeing(way, cost int) deed {
	switch {
	case l.isBetween():
		return deed{vel: way, what: leaf.Hold, cost: cost}
	case l.Level():
		d := l.doorsTo(true)
		d.cost = cost
		return d
	}
	// It came to a floor, but must stand there ahead of all else.
	return rest()
}

// may is what is left of a deed: what may be done.
func (l lift) may(d deed) deed {
	d.vel, d.brake, d.what = lock.Does(l.Car, l.doors, d.vel, d.brake, d.what)
	return d
}

// draw is what a car draws, by a deed that it does.
func (l lift) draw(d deed, r rates.Rates, floors int) int {
	if d.what != leaf.Hold {
		return rates.Draw(r, rates.Door, l.Load, 0)
	}
	then := l.Step(d.vel, d.brake, floors)
	return rates.Draw(r, drive.What(l.Car, d.vel, d.brake), l.Load, then.Vel)
}

// do does a deed.
func (l *lift) do(d deed, blocked bool, floors int) {
	l.Car = l.Step(d.vel, d.brake, floors)
	l.doors = l.doors.Step(d.what, blocked)
	l.cell, _ = l.cell.Spend(d.cost)
}
