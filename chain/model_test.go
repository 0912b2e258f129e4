package chain_test

import (
	"butler/api"
	"butler/trial"
)

// model is a Play by the chapter's words.
func model(n int, scripts [][]api.Call) trial.Game {
	return game(n, keys(n, scripts))
}

// keys are scripts whose As and Bs are Euclid's modulo n.
func keys(n int, scripts [][]api.Call) [][]api.Call {
	out := make([][]api.Call, len(scripts))
	for i, calls := range scripts {
		for _, c := range calls {
			c.A, c.B = (c.A%n+n)%n, (c.B%n+n)%n
			out[i] = append(out[i], c)
		}
	}
	return out
}

// game is one of the chain's own calls.
func game(n int, scripts [][]api.Call) trial.Game {
	chain := trial.Chain{Many: n}
	return trial.Game{Cells: chain.Cells(), Scripts: scripts, Call: func(thread int, c api.Call) trial.Next {
		if c.Op != 1 {
			return trial.Over(api.ErrArg, 0)
		}
		return chain.Ask(c.A, c.B, func(ring bool) trial.Next { return trial.Over(api.OK, trial.Number(ring)) })
	}}
}
