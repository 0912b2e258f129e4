package cell_test

import (
	"butler/api"
	"butler/trial"
)

// model is a game by the chapter's words.
func (g game) model() trial.Game {
	return trial.Game{Cells: g.values, Scripts: g.scripts, Call: func(_ int, c api.Call) trial.Next { return told(c, at(c.A, len(g.values))) }}
}

// at is which cell a call is about, counted by steps of the cells' number and not by a remainder.
func at(a, n int) int {
	if a > 4*n || a < -4*n {
		a -= a / n * n
	}
	for a < 0 {
		a += n
	}
	for a >= n {
		a -= n
	}
	return a
}

// told is what a call of that cell does.
func told(c api.Call, at int) trial.Next {
	value := func(v int) trial.Next { return trial.Over(api.OK, v) }
	switch c.Op {
	case 1:
		return trial.Load(at, value)
	case 2:
		return trial.Store(at, c.B, func() trial.Next { return value(0) })
	case 3:
		return trial.Swap(at, c.B, value)
	case 4:
		return trial.Cas(at, c.B, c.C, func(done bool) trial.Next {
			if done {
				return value(1)
			}
			return value(0)
		})
	case 5:
		return trial.Add(at, c.B, value)
	case 6:
		return until(at, c.B)
	}
	return trial.Over(api.ErrArg, 0)
}

func until(at, v int) trial.Next {
	return trial.Load(at, func(stands int) trial.Next {
		if stands != v {
			return trial.Over(api.OK, 0)
		}
		return trial.Await(at, func(changed bool) trial.Next {
			if !changed {
				return trial.Over(api.ErrStuck, 0)
			}
			return until(at, v)
		})
	})
}
