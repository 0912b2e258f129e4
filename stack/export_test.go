package stack

import "butler/turn"

// Aged is a stack with room for n, on which these were put when VERSION was that: it would take too long to come there by changes.
func Aged(w *turn.World, n, version int, values ...int) *Stack {
	s, t := New(w, n), turn.Free(0)
	s.head.Store(t, headOf(0, version))
	for _, v := range values {
		s.Push(t, v)
	}
	return s
}
