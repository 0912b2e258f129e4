package lock_test

import (
	"butler/api"
	"butler/trial"
)

// The cells of a Play.
const (
	next = 0
	now  = 1
	sum  = 2 // X
)

// model is a Play by the chapter's words.
func model(scripts [][]api.Call) trial.Game {
	return trial.Game{Cells: make([]int, 3), Scripts: scripts, Call: toldPlay}
}

func toldPlay(_ int, c api.Call) trial.Next {
	switch c.Op {
	case 1:
		return toldLock(func(has bool) trial.Next {
			if !has {
				return trial.Over(api.ErrStuck, 0)
			}
			return toldAdd(c.A)
		})
	case 2:
		return toldTry(func(has bool) trial.Next {
			if !has {
				return trial.Over(api.OK, -1)
			}
			return toldAdd(c.A)
		})
	}
	return trial.Over(api.ErrArg, 0)
}

func toldAdd(a int) trial.Next {
	return trial.Load(sum, func(v int) trial.Next {
		return trial.Store(sum, v+a, func() trial.Next {
			return toldUnlock(func() trial.Next { return trial.Over(api.OK, v) })
		})
	})
}

func toldLock(then func(has bool) trial.Next) trial.Next {
	return trial.Add(next, 1, func(drawn int) trial.Next { return toldLook(drawn-1, then) })
}

func toldLook(my int, then func(has bool) trial.Next) trial.Next {
	return trial.Load(now, func(called int) trial.Next {
		if called == my {
			return then(true)
		}
		return trial.Await(now, func(changed bool) trial.Next {
			if !changed {
				return then(false)
			}
			return toldLook(my, then)
		})
	})
}

func toldTry(then func(has bool) trial.Next) trial.Next {
	return trial.Load(now, func(v int) trial.Next { return trial.Cas(next, v, v+1, then) })
}

func toldUnlock(then func() trial.Next) trial.Next {
	return trial.Add(now, 1, func(int) trial.Next { return then() })
}

// toldCalls are the lock's own calls: Op 1 Lock, 2 Try, 3 Unlock, in any order, also by who has not the lock. What they answer is a 1 or a 0.
func toldCalls(_ int, c api.Call) trial.Next {
	tell := func(has bool) trial.Next { return trial.Over(api.OK, trial.Number(has)) }
	switch c.Op {
	case 1:
		return toldLock(tell)
	case 2:
		return toldTry(tell)
	}
	return toldUnlock(func() trial.Next { return tell(false) })
}
