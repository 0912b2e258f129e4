package slots_test

import (
	"butler/api"
	"butler/trial"
)

// The cells of a Play: HEAD is 0.
const head = 0

func next(i int) int { return 1 + 2*i }
func used(i int) int { return 2 + 2*i }

// A HEAD in numbers: a FIRST below one, and so many times one as VERSION says.
const (
	one      = 1 << 32
	versions = 1 << 30
)

// model is a Play by the chapter's words.
func model(n int, scripts [][]api.Call) trial.Game { return aged(n, 0, scripts) }

// aged is one that begins with that VERSION.
func aged(n, version int, scripts [][]api.Call) trial.Game {
	var took [][]int // by each thread, and not given by its calls of Op 3
	s := trial.Slots{Many: n}
	return trial.Game{
		Cells:   s.Cells(version),
		Scripts: scripts,
		Start:   func() { took = make([][]int, len(scripts)) },
		Call: func(thread int, c api.Call) trial.Next {
			mine := &took[thread]
			switch {
			case c.Op == 1:
				return s.Take(func(i int, e api.Errno) trial.Next {
					if e == api.OK {
						*mine = append(*mine, i)
					}
					return trial.Over(e, i)
				})
			case c.Op == 2:
				return s.Give(c.A, func(e api.Errno) trial.Next { return trial.Over(e, 0) })
			case c.Op == 3 && len(*mine) > 0:
				last := (*mine)[len(*mine)-1]
				*mine = (*mine)[:len(*mine)-1]
				return s.Give(last, func(e api.Errno) trial.Next {
					if e != api.OK {
						return trial.Over(e, 0)
					}
					return trial.Over(e, last)
				})
			}
			return trial.Over(api.ErrArg, 0)
		},
	}
}
