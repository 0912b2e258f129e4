package once_test

import (
	"butler/api"
	"butler/trial"
)

// model is a Play by the chapter's words: the once i has the cells 2 i, WORD, and 2 i + 1, VALUE.
func model(many int, scripts [][]api.Call) trial.Game {
	return trial.Game{Cells: make([]int, 2*many), Scripts: scripts, Call: func(thread int, c api.Call) trial.Next {
		if c.Op < 1 || c.Op > 4 {
			return trial.Over(api.ErrArg, 0)
		}
		return toldDo(2*rest(c.A, many), thread, api.Act{Kind: c.Op - 1, Value: c.B}, ends)
	}}
}

// modelOfCalls is of one once whose calls are Do, with an act of any Kind, the Op, and the Value B.
func modelOfCalls(scripts [][]api.Call) trial.Game {
	return trial.Game{Cells: make([]int, 2), Scripts: scripts, Call: func(thread int, c api.Call) trial.Next {
		return toldDo(0, thread, api.Act{Kind: c.Op, Value: c.B}, ends)
	}}
}

func rest(a, many int) int { return (a%many + many) % many }

func ends(x api.Answer) trial.Next { return trial.Over(x.Code, x.Value) }

// short names
func going(who int) int       { return trial.Going(who) }
func done(code api.Errno) int { return trial.Done(code) }

// toldDo is Do of the once whose WORD is the cell at, by the thread who.
func toldDo(at, who int, a api.Act, then func(x api.Answer) trial.Next) trial.Next {
	return trial.Kept{At: at}.Get(who, func(then func(x api.Answer) trial.Next) trial.Next { return toldAct(at, who, a, then) }, then)
}

// toldAct is what an act comes to.
func toldAct(at, who int, a api.Act, then func(x api.Answer) trial.Next) trial.Next {
	switch a.Kind {
	case 0:
		return then(api.Answer{Value: a.Value})
	case 1:
		return then(api.Answer{Code: api.ErrOnceFail, Value: a.Value})
	case 2:
		return then(api.Answer{Code: api.ErrOncePanic, Value: a.Value})
	case 3:
		return toldDo(at, who, a, func(x api.Answer) trial.Next {
			return then(api.Answer{Code: api.ErrOnceFail, Value: int(x.Code)})
		})
	}
	return then(api.Answer{Code: api.ErrArg})
}
