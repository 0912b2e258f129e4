// Package play is what the Plays of all layers have in common: which worlds and scripts they take, and how a script is carried out (DOC.md, W8).
package play

import (
	"butler/api"
	"butler/turn"
)

// Check is the error of a Play, as far as it hangs on its world and its scripts alone.
func Check(w *turn.World, scripts [][]api.Call) api.Errno {
	if e := CheckScripts(scripts); e != api.OK {
		return e
	}
	if w == nil || w.Ran() {
		return api.ErrArg
	}
	return api.OK
}

// CheckScripts is the error of a Play, as far as it hangs on its scripts alone. It looks at all of them for what is too long ahead of counting them, since ErrLong goes first.
func CheckScripts(scripts [][]api.Call) api.Errno {
	for _, calls := range scripts {
		if len(calls) > api.MaxCalls {
			return api.ErrLong
		}
	}
	if len(scripts) == 0 || len(scripts) > api.MaxThreads {
		return api.ErrArg
	}
	return api.OK
}

// Which is the place that any number names among so many.
func Which(a, many int) int {
	a %= many
	if a < 0 {
		a += many
	}
	return a
}

// Run lets a thread for each script carry its calls out, of a world by turns, of none freely, and tells all answers. What do keeps for a thread must be that thread's own.
func Run(w *turn.World, scripts [][]api.Call, do func(t *turn.Thread, c api.Call) api.Answer) [][]api.Answer {
	answers := make([][]api.Answer, len(scripts))
	bodies := make([]func(t *turn.Thread), len(scripts))
	for i, calls := range scripts {
		answers[i] = make([]api.Answer, len(calls))
		bodies[i] = func(t *turn.Thread) { carryOut(t, calls, do, answers[i]) }
	}
	w.Run(bodies)
	return answers
}

// carryOut does nothing more behind a call that was stuck: a world that is stuck stays so.
func carryOut(t *turn.Thread, calls []api.Call, do func(t *turn.Thread, c api.Call) api.Answer, answers []api.Answer) {
	stuck := false
	for i, c := range calls {
		if stuck {
			answers[i] = api.Answer{Code: api.ErrStuck}
			continue
		}
		t.Note(api.StepBegin, i, 0)
		answers[i] = do(t, c)
		t.Note(api.StepEnd, i, int(answers[i].Code))
		stuck = answers[i].Code == api.ErrStuck
	}
}
