package plan

import (
	"slices"

	"bulwark/api"
	"bulwark/wire"
)

// reader goes through a configuration. At the first thing that is wrong it
// stands still, so that this place is the one that is told, whatever is asked
// of it from then on.
type reader struct {
	bytes []byte
	at    int
	fault api.Errno
}

// number takes a byte from low to high, but for the exceptions; 0, if there is none.
func (r *reader) number(low, high int, exceptions ...int) int {
	if r.fault != api.OK {
		return 0
	}
	if r.at >= len(r.bytes) {
		r.fault = api.ErrShort
		return 0
	}
	n := int(r.bytes[r.at])
	if n < low || n > high || slices.Contains(exceptions, n) {
		r.fault = api.ErrValue
		return 0
	}
	r.at++
	return n
}

// check takes the check of all bytes ahead.
func (r *reader) check() {
	if r.fault != api.OK {
		return
	}
	behind := r.at + wire.NumberBytes
	if behind > len(r.bytes) {
		// A piece of a check cannot be another check: the configuration ends too early.
		r.at, r.fault = len(r.bytes), api.ErrShort
		return
	}
	if wire.Number(r.bytes[r.at:behind]) != wire.Check(r.bytes[:r.at]) {
		r.fault = api.ErrCheck
		return
	}
	r.at = behind
}

// end asks that nothing is left.
func (r *reader) end() {
	if r.fault == api.OK && r.at < len(r.bytes) {
		r.fault = api.ErrLong
	}
}
