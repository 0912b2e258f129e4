package slots

import "butler/turn"

// Aged are n slots that are free, one behind the other, with that VERSION: it would take too long to come there by changes.
func Aged(w *turn.World, n, version int) *Slots {
	s := New(w, n)
	s.head.Store(turn.Free(0), headOf(behind(-1, n), version))
	return s
}
