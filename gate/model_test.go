package gate_test

import (
	"butler/api"
	"butler/trial"
)

// cellGate is the cell of a Play.
const cellGate = 0

// model is a Play by the chapter's words.
func model(scripts [][]api.Call) trial.Game {
	return trial.Game{Cells: []int{0}, Scripts: scripts, Call: toldPlay}
}

func toldPlay(_ int, c api.Call) trial.Next {
	g := trial.Gate{At: cellGate}
	tells := func(e api.Errno) trial.Next { return trial.Over(e, 0) }
	switch c.Op {
	case 1:
		return g.Enter(tells)
	case 2:
		return g.Leave(tells)
	case 3:
		return g.Shut(func(first bool, e api.Errno) trial.Next { return trial.Over(e, trial.Number(first)) })
	}
	return tells(api.ErrArg)
}
