package script

import (
	"strconv"

	"paternoster/group"
)

// form is which event a word is, and which numbers follow the word.
type form struct {
	kind   int
	car, n bool
}

// forms are the words of events.
func forms() map[string]form {
	return map[string]form{
		"hall":    {kind: group.Hall, n: true},
		"call":    {kind: group.Call, car: true, n: true},
		"load":    {kind: group.Load, car: true, n: true},
		"fault":   {kind: group.Fault, car: true},
		"reset":   {kind: group.Reset, car: true},
		"pick":    {kind: group.Pick, car: true},
		"restart": {kind: group.Restart, n: true},
	}
}

// put is an event as words: its own one, and its numbers.
func (f form) put(word string, e group.Event) []string {
	all := []string{word}
	if f.car {
		all = append(all, strconv.Itoa(e.Car))
	}
	if f.n {
		all = append(all, strconv.Itoa(e.N))
	}
	return all
}

// given is the word of what is there, or the one that says that it isn't.
func given(is bool, word string) string {
	if is {
		return word
	}
	return none
}

// unread are the words of a line that are still to be read, and whether one that was read may not stand where it stood.
type unread struct {
	left []string
	bad  bool
}

// next is the word that is read now; behind the last one an empty one, that may stand nowhere.
func (u *unread) next() string {
	if len(u.left) == 0 {
		return ""
	}
	word := u.left[0]
	u.left = u.left[1:]
	return word
}

// given tells whether what a word says is there.
func (u *unread) given(word string) bool {
	next := u.next()
	if next != word && next != none {
		u.bad = true
	}
	return next == word
}

// number is an int.
func (u *unread) number() int {
	word := u.next()
	n, err := strconv.Atoi(word)
	// A number has one text only: strconv takes a plus, and needless zeros, too.
	if err != nil || strconv.Itoa(n) != word {
		u.bad = true
	}
	return n
}

// bits is a number of 64 bits, without a sign.
func (u *unread) bits() uint64 {
	word := u.next()
	n, err := strconv.ParseUint(word, 10, 64)
	if err != nil || strconv.FormatUint(n, 10) != word {
		u.bad = true
	}
	return n
}

// events are all that follow.
func (u *unread) events() []group.Event {
	var all []group.Event
	known := forms()
	for len(u.left) > 0 && !u.bad {
		f, ok := known[u.next()]
		u.bad = !ok
		all = append(all, u.event(f))
	}
	return all
}

// event is one of a form.
func (u *unread) event(f form) group.Event {
	e := group.Event{Kind: f.kind}
	if f.car {
		e.Car = u.number()
	}
	if f.n {
		e.N = u.number()
	}
	return e
}
