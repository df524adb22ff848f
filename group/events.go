package group

import (
	"paternoster/api"
	"paternoster/feed"
	"paternoster/mend"
	"paternoster/phase"
	"paternoster/sense"
	"paternoster/turn"
)

// kinds are what is done where something happens, by its kind.
func kinds() map[int]func(*World, Event) api.Errno {
	return map[int]func(*World, Event) api.Errno{
		Hall:    (*World).hall,
		Call:    (*World).call,
		Load:    (*World).load,
		Fault:   (*World).fault,
		Reset:   (*World).reset,
		Pick:    (*World).pick,
		Restart: (*World).restart,
	}
}

// hear is the part of a tick in which events happen.
func (w *World) hear(t *tick) {
	does := kinds()
	for _, e := range t.in.Events {
		t.errs = append(t.errs, w.happen(does[e.Kind], e))
	}
}

// happen is what becomes of an event, if there is something that does it.
func (w *World) happen(does func(*World, Event) api.Errno, e Event) api.Errno {
	if does == nil || namesCar(e.Kind) && !w.has(e.Car) {
		return api.ErrNone
	}
	return does(w, e)
}

// namesCar tells whether events of a kind are a car's.
func namesCar(kind int) bool { return Call <= kind && kind <= Pick }

// hall is somebody who waits at a floor.
func (w *World) hall(e Event) api.Errno {
	now, ok := w.calls.Hall(e.N, w.conf.Floors)
	w.calls = now
	return unless(ok, api.ErrNone)
}

// call is somebody in a car who wants to a floor.
func (w *World) call(e Event) api.Errno {
	now, ok := w.calls.Car(e.Car, e.N, w.conf.Floors)
	w.calls = now
	return unless(ok, api.ErrNone)
}

// load is another load of a car.
func (w *World) load(e Event) api.Errno {
	l := &w.lifts[e.Car]
	switch {
	case e.N < 0 || e.N > api.MaxLoad:
		return api.ErrArg
	case !l.isIdle() || !l.boards():
		return api.ErrState
	}
	l.Load = e.N
	return api.OK
}

// fault is a car that is out of order from now on.
func (w *World) fault(e Event) api.Errno {
	l := &w.lifts[e.Car]
	l.drop()
	l.phase = phase.Out
	return api.OK
}

// reset is a car that is out of order no longer.
func (w *World) reset(e Event) api.Errno {
	l := &w.lifts[e.Car]
	switch {
	case !l.isOut() || l.Vel != 0:
		return api.ErrState
	case w.mode == Normal:
		l.phase = phase.Normal
	default:
		l.phase = phase.Stalled
	}
	return api.OK
}

// pick is a car that was chosen by hand.
func (w *World) pick(e Event) api.Errno {
	if w.lifts[e.Car].isOut() {
		return api.ErrFault
	}
	picked, ok := w.turn.Pick(e.Car, w.bits(lift.isReady), w.busy(), w.conf.Turn)
	if !ok || w.mode != Gen {
		return api.ErrState
	}
	w.turn = picked
	return api.OK
}

// restart is all but the journal forgotten.
func (w *World) restart(e Event) api.Errno {
	w.journal = w.journal.Tear(e.N)
	w.ledger, _ = mend.Again(w.journal, w.moving(), w.known)
	w.stallAll()
	w.turn = turn.None()
	w.sense = sense.Sense{}
	w.mode = w.without()
	return api.OK
}

// moving are the cars that move, and what each may draw as it does.
func (w *World) moving() []mend.Moving {
	var all []mend.Moving
	for i, l := range w.lifts {
		if l.Vel != 0 {
			all = append(all, mend.Moving{Car: i, Peak: w.peak(i, l.Vel)})
		}
	}
	return all
}

// without is how things are without mains: by where the switch stands.
func (w *World) without() int {
	if w.feed.At == feed.Gen {
		return Gen
	}
	return Lost
}

// unless is an error, or OK, if all is well.
func unless(ok bool, err api.Errno) api.Errno {
	if ok {
		return api.OK
	}
	return err
}
