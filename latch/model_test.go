package latch_test

import (
	"butler/api"
	"butler/trial"
)

// count is the cell of a Play.
const count = 0

// model is a Play by the chapter's words.
func model(n int, scripts [][]api.Call) trial.Game {
	return trial.Game{Cells: []int{n}, Scripts: scripts, Call: toldPlay}
}

func toldPlay(_ int, c api.Call) trial.Next {
	switch c.Op {
	case 1:
		return toldDown()
	case 2:
		return toldWait()
	}
	return trial.Over(api.ErrArg, 0)
}

func toldDown() trial.Next {
	return trial.Load(count, func(v int) trial.Next {
		if v == 0 {
			return trial.Over(api.ErrLatchLow, 0)
		}
		return trial.Cas(count, v, v-1, func(done bool) trial.Next {
			if !done {
				return toldDown()
			}
			return trial.Over(api.OK, 0)
		})
	})
}

func toldWait() trial.Next {
	return trial.Load(count, func(v int) trial.Next {
		if v == 0 {
			return trial.Over(api.OK, 0)
		}
		return trial.Await(count, func(changed bool) trial.Next {
			if !changed {
				return trial.Over(api.ErrStuck, 0)
			}
			return toldWait()
		})
	})
}
