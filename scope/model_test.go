package scope_test

import (
	"slices"

	"butler/api"
	"butler/trial"
)

// Where the cells of a tree are.
const (
	cellMany  = 0
	cellReady = 1                   // that of the root; behind it those of all other numbers
	cellRoot  = 1 + api.MaxScopes   // the first of the root's own
	lastLevel = api.MaxLevels - 1   // where no kids are
	roomKids  = 4*api.MaxScopes + 2 // how many cells KIDS has
)

// model is a Play by the chapter's words.
func model(l []api.Recipe, scripts [][]api.Call) trial.Game {
	x := &toldTree{l: l}
	x.start()
	ready := make([]int, api.MaxScopes)
	ready[0] = 1
	return trial.Game{Cells: slices.Concat([]int{1}, ready, x.scopes[0].cells()), Scripts: scripts, Call: x.call, Start: x.start}
}

// toldTree is a tree of scopes: those that were made, by their numbers.
type toldTree struct {
	l      []api.Recipe
	scopes map[int]*toldScope
}

// toldScope is a scope, whose own cells begin at that one.
type toldScope struct {
	tree          *toldTree
	number, level int
	parent        *toldScope
	keys          []int
	at            int
}

type then = func(x api.Answer) trial.Next

func (r *toldTree) start() {
	r.scopes = map[int]*toldScope{0: r.scope(0, 0, nil)}
	r.scopes[0].at = cellRoot
}

// scope is one that has no cells yet.
func (r *toldTree) scope(number, level int, parent *toldScope) *toldScope {
	s := &toldScope{tree: r, number: number, level: level, parent: parent}
	for key, x := range r.l {
		if x.Level == level {
			s.keys = append(s.keys, key)
		}
	}
	return s
}

// place tells the i of the scope's i-th key; -1: it is none of them.
func (s *toldScope) place(key int) int { return slices.Index(s.keys, key) }

func (s *toldScope) kept(key int) trial.Kept { return trial.Kept{At: s.at + 2*s.place(key)} }

func (s *toldScope) chain() trial.Chain {
	return trial.Chain{At: s.at + 2*len(s.keys), Many: len(s.keys)}
}

func (s *toldScope) gate() trial.Gate { return trial.Gate{At: s.at + 3*len(s.keys)} }

func (s *toldScope) done() trial.Stack {
	return trial.Stack{At: s.at + 3*len(s.keys) + 1, Many: len(s.keys)}
}

func (s *toldScope) kids() trial.Stack {
	return trial.Stack{At: s.at + 7*len(s.keys) + 3, Many: api.MaxScopes}
}

func (s *toldScope) result() int { return s.at + 7*len(s.keys) + 3 + roomKids }

func (s *toldScope) end() int { return s.result() + 1 }

// cells are what stands in its own cells at first.
func (s *toldScope) cells() []int {
	return slices.Concat(make([]int, 2*len(s.keys)), s.chain().Cells(), []int{0}, s.done().Cells(), s.kids().Cells(), []int{0, 0})
}

// home is that of a key, seen from here.
func (s *toldScope) home(key int) *toldScope {
	for s != nil && s.place(key) < 0 {
		s = s.parent
	}
	return s
}

func (r *toldTree) call(who int, c api.Call) trial.Next {
	tells := func(x api.Answer) trial.Next { return trial.Over(x.Code, x.Value) }
	if c.Op != 1 && c.Op != 2 && c.Op != 3 {
		return trial.Over(api.ErrArg, 0)
	}
	return r.find(c.A, func(s *toldScope, e api.Errno) trial.Next {
		switch {
		case e != api.OK:
			return trial.Over(e, 0)
		case c.Op == 1:
			return s.ask(who, c.B, tells)
		case c.Op == 2:
			return s.open(tells)
		}
		return s.close(tells)
	})
}

// find is At.
func (r *toldTree) find(n int, then func(s *toldScope, e api.Errno) trial.Next) trial.Next {
	if n < 0 || n > api.MaxScopes-1 {
		return then(nil, api.ErrHouseScope)
	}
	return trial.Load(cellReady+n, func(v int) trial.Next {
		if v == 0 {
			return then(nil, api.ErrHouseScope)
		}
		return then(r.scopes[n], api.OK)
	})
}

func (s *toldScope) get(who, key int, then then) trial.Next {
	return s.kept(key).Get(who, func(keep func(x api.Answer) trial.Next) trial.Next {
		return trial.Note(api.StepBuild, key, s.number, func() trial.Next { return s.build(who, key, keep) })
	}, then)
}

func (s *toldScope) build(who, key int, keep then) trial.Next {
	l := s.tree.l
	rings := func(need int, then func(ring bool) trial.Next) trial.Next {
		if l[need].Level != l[key].Level {
			return then(false)
		}
		return s.chain().Ask(s.place(key), s.place(need), then)
	}
	get := func(need int, then then) trial.Next { return s.home(need).get(who, need, then) }
	return trial.Build(l[key], rings, get, func(x api.Answer) trial.Next {
		if x.Code != api.OK {
			return keep(x)
		}
		return s.done().Push(key, func(api.Errno) trial.Next { return keep(x) })
	})
}

// inside enters the gate for what is done there; it leaves it with that's answer.
func (s *toldScope) inside(does func(leave then) trial.Next, then then) trial.Next {
	return s.gate().Enter(func(e api.Errno) trial.Next {
		if e != api.OK {
			return then(api.Answer{Code: api.ErrScopeShut})
		}
		return does(func(x api.Answer) trial.Next {
			return s.gate().Leave(func(api.Errno) trial.Next { return then(x) })
		})
	})
}

func (s *toldScope) ask(who, key int, next then) trial.Next {
	home := s.home(key)
	if home == nil {
		return next(api.Answer{Code: api.ErrHouseKey})
	}
	return s.inside(func(leave then) trial.Next { return home.get(who, key, leave) }, next)
}

func (s *toldScope) open(next then) trial.Next {
	return s.inside(func(leave then) trial.Next {
		if s.level == lastLevel {
			return leave(api.Answer{Code: api.ErrBig})
		}
		return trial.Add(cellMany, 1, func(sum int) trial.Next {
			if n := sum - 1; n < api.MaxScopes {
				return s.make(n, leave)
			}
			return leave(api.Answer{Code: api.ErrBig})
		})
	}, next)
}

// make is what an Open does that has drawn the number n.
func (s *toldScope) make(n int, leave then) trial.Next {
	kid := s.tree.scope(n, s.level+1, s)
	return trial.Make(kid.cells(), func(at int) trial.Next {
		kid.at = at
		s.tree.scopes[n] = kid
		return s.kids().Push(n, func(api.Errno) trial.Next {
			return trial.Store(cellReady+n, 1, func() trial.Next { return leave(api.Answer{Value: n}) })
		})
	})
}

func (s *toldScope) close(then then) trial.Next {
	return s.gate().Shut(func(first bool, e api.Errno) trial.Next {
		switch {
		case e != api.OK:
			return then(api.Answer{Code: e})
		case first:
			return s.closeKids(then)
		}
		return s.closed(then)
	})
}

// closeKids is Close's point 1.
func (s *toldScope) closeKids(then then) trial.Next {
	return s.kids().Pop(func(n int, e api.Errno) trial.Next {
		if e != api.OK {
			return s.closeKeys(nil, then)
		}
		return s.tree.scopes[n].close(func(api.Answer) trial.Next { return s.closeKids(then) })
	})
}

// closeKeys is Close's points 2 and 3, where these keys are closed already.
func (s *toldScope) closeKeys(closed []int, then then) trial.Next {
	return s.done().Pop(func(key int, e api.Errno) trial.Next {
		if e == api.OK {
			return trial.Note(api.StepClose, key, s.number, func() trial.Next { return s.closeKeys(append(closed, key), then) })
		}
		x := s.tree.closing(closed)
		return trial.Store(s.result(), x.Value, func() trial.Next {
			return trial.Store(s.end(), 1+int(x.Code), func() trial.Next { return then(x) })
		})
	})
}

// closing is what closing these keys, in that order, comes to.
func (r *toldTree) closing(keys []int) api.Answer {
	for _, key := range keys {
		switch r.l[key].End {
		case 1:
			return api.Answer{Code: api.ErrOnceFail, Value: key}
		case 2:
			return api.Answer{Code: api.ErrOncePanic, Value: key}
		}
	}
	return api.Answer{}
}

// closed is what a Close does that was not the first one.
func (s *toldScope) closed(then then) trial.Next {
	return trial.Load(s.end(), func(end int) trial.Next {
		if end != 0 {
			return trial.Load(s.result(), func(x int) trial.Next { return then(api.Answer{Code: api.Errno(end - 1), Value: x}) })
		}
		return trial.Await(s.end(), func(changed bool) trial.Next {
			if !changed {
				return then(api.Answer{Code: api.ErrStuck})
			}
			return s.closed(then)
		})
	})
}
