package trial

import (
	"slices"

	"butler/api"
)

// lastLevel is where no kids are.
const lastLevel = api.MaxLevels - 1

// Tree is a game of a tree of scopes, by the words of chapter 14.
func Tree(l []api.Recipe, scripts [][]api.Call) Game {
	x := &tree{l: l}
	ready := make([]int, api.MaxScopes)
	ready[0] = 1
	return Game{Cells: slices.Concat([]int{1}, ready, Root(l).Cells()), Scripts: scripts, Call: x.call, Start: x.start}
}

// tree is one: its scopes that were made, by their numbers.
type tree struct {
	l      []api.Recipe
	scopes map[int]*toldScope
}

// toldScope is a scope of it.
type toldScope struct {
	Scope
	tree   *tree
	level  int
	parent *toldScope
}

type then = func(x api.Answer) Next

func (r *tree) start() { r.scopes = map[int]*toldScope{0: {Scope: Root(r.l), tree: r}} }

// home is that of a key, seen from here.
func (s *toldScope) home(key int) *toldScope {
	for s != nil && s.place(key) < 0 {
		s = s.parent
	}
	return s
}

func (r *tree) call(who int, c api.Call) Next {
	tells := func(x api.Answer) Next { return Over(x.Code, x.Value) }
	if c.Op != 1 && c.Op != 2 && c.Op != 3 {
		return Over(api.ErrArg, 0)
	}
	return r.find(c.A, func(s *toldScope, e api.Errno) Next {
		switch {
		case e != api.OK:
			return Over(e, 0)
		case c.Op == 1:
			return s.ask(who, c.B, tells)
		case c.Op == 2:
			return s.open(tells)
		}
		return s.close(tells)
	})
}

// find is At.
func (r *tree) find(n int, then func(s *toldScope, e api.Errno) Next) Next {
	if n < 0 || n > api.MaxScopes-1 {
		return then(nil, api.ErrHouseScope)
	}
	return Load(cellReady+n, func(v int) Next {
		if v == 0 {
			return then(nil, api.ErrHouseScope)
		}
		return then(r.scopes[n], api.OK)
	})
}

func (s *toldScope) get(who, key int, then then) Next {
	return s.Kept(key).Get(who, func(keep func(x api.Answer) Next) Next {
		return Note(api.StepBuild, key, s.Number, func() Next { return s.build(who, key, keep) })
	}, then)
}

func (s *toldScope) build(who, key int, keep then) Next {
	l := s.tree.l
	rings := func(need int, then func(ring bool) Next) Next {
		if l[need].Level != l[key].Level {
			return then(false)
		}
		return s.Chain().Ask(s.place(key), s.place(need), then)
	}
	get := func(need int, then then) Next { return s.home(need).get(who, need, then) }
	return Build(l[key], rings, get, func(x api.Answer) Next {
		if x.Code != api.OK {
			return keep(x)
		}
		return s.Done().Push(key, func(api.Errno) Next { return keep(x) })
	})
}

// inside enters the gate for what is done there; it leaves it with that's answer.
func (s *toldScope) inside(does func(leave then) Next, then then) Next {
	return s.Gate().Enter(func(e api.Errno) Next {
		if e != api.OK {
			return then(api.Answer{Code: api.ErrScopeShut})
		}
		return does(func(x api.Answer) Next {
			return s.Gate().Leave(func(api.Errno) Next { return then(x) })
		})
	})
}

func (s *toldScope) ask(who, key int, next then) Next {
	home := s.home(key)
	if home == nil {
		return next(api.Answer{Code: api.ErrHouseKey})
	}
	return s.inside(func(leave then) Next { return home.get(who, key, leave) }, next)
}

func (s *toldScope) open(next then) Next {
	return s.inside(func(leave then) Next {
		if s.level == lastLevel {
			return leave(api.Answer{Code: api.ErrBig})
		}
		return Add(cellMany, 1, func(sum int) Next {
			if n := sum - 1; n < api.MaxScopes {
				return s.make(n, leave)
			}
			return leave(api.Answer{Code: api.ErrBig})
		})
	}, next)
}

// make is what an Open does that has drawn the number n.
func (s *toldScope) make(n int, leave then) Next {
	kid := &toldScope{Scope: Scope{Number: n, Keys: keysOn(s.level+1, s.tree.l)}, tree: s.tree, level: s.level + 1, parent: s}
	return Make(kid.Cells(), func(at int) Next {
		kid.At = at
		s.tree.scopes[n] = kid
		return s.Kids().Push(n, func(api.Errno) Next {
			return Store(cellReady+n, 1, func() Next { return leave(api.Answer{Value: n}) })
		})
	})
}

func (s *toldScope) close(then then) Next {
	return s.Gate().Shut(func(first bool, e api.Errno) Next {
		switch {
		case e != api.OK:
			return then(api.Answer{Code: e})
		case first:
			return s.closeKids(then)
		}
		return s.closed(then)
	})
}

// closeKids is Close's point 1.
func (s *toldScope) closeKids(then then) Next {
	return s.Kids().Pop(func(n int, e api.Errno) Next {
		if e != api.OK {
			return s.closeKeys(nil, then)
		}
		return s.tree.scopes[n].close(func(api.Answer) Next { return s.closeKids(then) })
	})
}

// closeKeys is Close's points 2 and 3, where these keys are closed already.
func (s *toldScope) closeKeys(closed []int, then then) Next {
	return s.Done().Pop(func(key int, e api.Errno) Next {
		if e == api.OK {
			return Note(api.StepClose, key, s.Number, func() Next { return s.closeKeys(append(closed, key), then) })
		}
		x := s.tree.closing(closed)
		return Store(s.Result(), x.Value, func() Next {
			return Store(s.End(), 1+int(x.Code), func() Next { return then(x) })
		})
	})
}

// closing is what closing these keys, in that order, comes to.
func (r *tree) closing(keys []int) api.Answer {
	for _, key := range keys {
		switch r.l[key].End {
		case 1:
			return api.Answer{Code: api.ErrOnceFail, Value: key}
		case 2:
			return api.Answer{Code: api.ErrOncePanic, Value: key}
		}
	}
	return api.Answer{}
}

// closed is what a Close does that was not the first one.
func (s *toldScope) closed(then then) Next {
	return Load(s.End(), func(end int) Next {
		if end != 0 {
			return Load(s.Result(), func(x int) Next { return then(api.Answer{Code: api.Errno(end - 1), Value: x}) })
		}
		return Await(s.End(), func(changed bool) Next {
			if !changed {
				return then(api.Answer{Code: api.ErrStuck})
			}
			return s.closed(then)
		})
	})
}
