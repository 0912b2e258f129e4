package box_test

import (
	"butler/api"
	"butler/trial"
)

// model is a Play by the chapter's words.
func model(l []api.Recipe, scripts [][]api.Call) trial.Game {
	return trial.Game{Cells: make([]int, 3*len(l)), Scripts: scripts, Call: func(who int, c api.Call) trial.Next {
		if c.Op != 1 {
			return trial.Over(api.ErrArg, 0)
		}
		return toldBoxes(l).get(who, c.A, func(x api.Answer) trial.Next { return trial.Over(x.Code, x.Value) })
	}}
}

// toldBoxes are boxes of recipes: of the key k the cells 2 k, WORD, and 2 k + 1, VALUE; behind those of all keys a chain.
type toldBoxes []api.Recipe

type then = func(x api.Answer) trial.Next

func (l toldBoxes) get(who, key int, then then) trial.Next {
	if key < 0 || key >= len(l) {
		return then(api.Answer{Code: api.ErrHouseKey})
	}
	return trial.Kept{At: 2 * key}.Get(who, func(keep func(x api.Answer) trial.Next) trial.Next {
		return trial.Note(api.StepBuild, key, 0, func() trial.Next { return l.build(who, key, l[key].Needs, nil, keep) })
	}, then)
}

// build is to build a key, of whose needs some are left, and the others gave that.
func (l toldBoxes) build(who, key int, left, gave []int, keep then) trial.Next {
	if len(left) == 0 {
		return keep(l.act(key, gave))
	}
	need := left[0]
	return trial.Chain{At: 2 * len(l), Many: len(l)}.Ask(key, need, func(ring bool) trial.Next {
		if ring {
			return keep(api.Answer{Code: api.ErrBoxRing, Value: need})
		}
		return l.get(who, need, func(x api.Answer) trial.Next {
			switch x.Code {
			case api.OK:
				return l.build(who, key, left[1:], append(gave[:len(gave):len(gave)], x.Value), keep)
			case api.ErrStuck:
				return keep(x)
			}
			return keep(api.Answer{Code: api.ErrBoxNeed, Value: need})
		})
	})
}

// act is what a key comes to whose needs gave that.
func (l toldBoxes) act(key int, gave []int) api.Answer {
	own := l[key].Value
	switch l[key].Act {
	case 1:
		return api.Answer{Code: api.ErrOnceFail, Value: own}
	case 2:
		return api.Answer{Code: api.ErrOncePanic, Value: own}
	}
	sum := own
	for _, v := range gave {
		sum += v
	}
	for sum < 0 {
		sum += 1000003
	}
	return api.Answer{Value: sum % 1000003}
}
