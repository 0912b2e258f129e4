package lock

import (
	"slices"
	"testing"

	"butler/api"
	"butler/cell"
	"butler/turn"
)

// P4.2: no Play is ever stuck; so what a call of it would answer is asked of the call alone, of a lock that nobody unlocks.
func TestCallThatIsStuck(t *testing.T) {
	w := turn.New(nil)
	l, x := New(w), cell.New(w, 0)
	var first, second api.Answer
	w.Run([]func(*turn.Thread){func(th *turn.Thread) {
		l.Lock(th)
		first = l.call(th, x, api.Call{Op: opTry, A: 5})
		second = l.call(th, x, api.Call{Op: opLock, A: 5})
	}})
	if first != (api.Answer{Value: -1}) || second != (api.Answer{Code: api.ErrStuck}) {
		t.Error(first, second)
	}
	if slices.ContainsFunc(w.Trace(), func(s api.Step) bool { return s.Cell == x.Id() || s.Cell == l.now.Id() && s.Op == api.StepAdd }) {
		t.Error("it went on without the lock", w.Trace())
	}
}
