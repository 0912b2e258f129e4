package gate_test

import (
	"butler/api"
	"butler/trial"
)

// cellGate is the cell of a Play.
const cellGate = 0

// model is a Play by the chapter's words.
func model(scripts [][]api.Call) trial.Game {
	return trial.Game{Cells: []int{0}, Scripts: scripts, Call: toldPlay}
}

func toldPlay(_ int, c api.Call) trial.Next {
	switch c.Op {
	case 1:
		return toldEnter()
	case 2:
		return toldLeave()
	case 3:
		return toldShut()
	}
	return trial.Over(api.ErrArg, 0)
}

func toldEnter() trial.Next {
	return trial.Load(cellGate, func(v int) trial.Next {
		if v%2 == 1 {
			return trial.Over(api.ErrGateShut, 0)
		}
		return trial.Cas(cellGate, v, v+2, func(done bool) trial.Next {
			if done {
				return trial.Over(api.OK, 0)
			}
			return toldEnter()
		})
	})
}

func toldLeave() trial.Next {
	return trial.Load(cellGate, func(v int) trial.Next {
		if v < 2 {
			return trial.Over(api.ErrGateEmpty, 0)
		}
		return trial.Cas(cellGate, v, v-2, func(done bool) trial.Next {
			if done {
				return trial.Over(api.OK, 0)
			}
			return toldLeave()
		})
	})
}

// toldShut is its points 1 and 2.
func toldShut() trial.Next {
	return trial.Load(cellGate, func(v int) trial.Next {
		if v%2 == 1 {
			return toldLooks(0)
		}
		return trial.Cas(cellGate, v, v+1, func(done bool) trial.Next {
			if done {
				return toldLooks(1)
			}
			return toldShut()
		})
	})
}

// toldLooks is Shut's points 3 and 4.
func toldLooks(first int) trial.Next {
	return trial.Load(cellGate, func(v int) trial.Next {
		if v == 1 {
			return trial.Over(api.OK, first)
		}
		return trial.Await(cellGate, func(changed bool) trial.Next {
			if changed {
				return toldLooks(first)
			}
			return trial.Over(api.ErrStuck, 0)
		})
	})
}
