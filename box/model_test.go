package box_test

import (
	"butler/api"
	"butler/trial"
)

// model is a Play by the chapter's words.
func model(l []api.Recipe, scripts [][]api.Call) trial.Game {
	return trial.Game{Cells: make([]int, 3*len(l)), Scripts: scripts, Call: func(who int, c api.Call) trial.Next {
		if c.Op != 1 {
			return trial.Over(api.ErrArg, 0)
		}
		return toldBoxes(l).get(who, c.A, func(x api.Answer) trial.Next { return trial.Over(x.Code, x.Value) })
	}}
}

// toldBoxes are boxes of recipes: of the key k the cells 2 k, WORD, and 2 k + 1, VALUE; behind those of all keys a chain.
type toldBoxes []api.Recipe

type then = func(x api.Answer) trial.Next

func (l toldBoxes) get(who, key int, then then) trial.Next {
	if key < 0 || key >= len(l) {
		return then(api.Answer{Code: api.ErrHouseKey})
	}
	return trial.Kept{At: 2 * key}.Get(who, func(keep func(x api.Answer) trial.Next) trial.Next {
		return trial.Note(api.StepBuild, key, 0, func() trial.Next { return l.build(who, key, keep) })
	}, then)
}

func (l toldBoxes) build(who, key int, keep then) trial.Next {
	chain := trial.Chain{At: 2 * len(l), Many: len(l)}
	rings := func(need int, then func(ring bool) trial.Next) trial.Next { return chain.Ask(key, need, then) }
	get := func(need int, then then) trial.Next { return l.get(who, need, then) }
	return trial.Build(l[key], rings, get, keep)
}
