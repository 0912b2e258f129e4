package counter_test

import (
	"slices"

	"butler/api"
	"butler/trial"
)

// A cell in numbers: an AMOUNT below one, and so many times one as VERSION says.
const (
	one      = trial.One
	half     = one / 2 // from here on an AMOUNT stands for a number below 0
	versions = trial.Versions
	last     = one * (versions - 1) // the last VERSION, with nothing beside
)

// around is Euclid's modulo, of an AMOUNT.
func around(a int) int { return (a%one + one) % one }

// standsFor is the number for which the AMOUNT of a cell stands.
func standsFor(v int) int {
	if v%one >= half {
		return v%one - one
	}
	return v % one
}

// sumOf is what all cells stand for, together.
func sumOf(cells []int) int {
	sum := 0
	for _, v := range cells {
		sum += standsFor(v)
	}
	return sum
}

// model is a Play by the chapter's words.
func model(shards int, scripts [][]api.Call) trial.Game {
	return game(make([]int, shards), rests(scripts))
}

// rests are scripts, of whose As only the rests by 1000 are left.
func rests(scripts [][]api.Call) [][]api.Call {
	out := make([][]api.Call, len(scripts))
	for i, calls := range scripts {
		for _, c := range calls {
			c.A -= c.A / 1000 * 1000
			out[i] = append(out[i], c)
		}
	}
	return out
}

// game is one of the counter's own calls, which begins with these cells.
func game(cells []int, scripts [][]api.Call) trial.Game {
	many := len(cells)
	return trial.Game{Cells: cells, Scripts: scripts, Call: func(thread int, c api.Call) trial.Next {
		switch c.Op {
		case 1:
			return toldAdd(thread%many, c.A)
		case 2:
			return toldSum(many)
		}
		return trial.Over(api.ErrArg, 0)
	}}
}

func toldAdd(at, n int) trial.Next {
	return trial.Load(at, func(v int) trial.Next {
		return trial.Cas(at, v, trial.Newer(v, around(v%one+around(n))), func(done bool) trial.Next {
			if !done {
				return toldAdd(at, n)
			}
			return trial.Over(api.OK, 0)
		})
	})
}

func toldSum(many int) trial.Next {
	return toldLook(many, nil, func(first []int) trial.Next {
		return toldLook(many, nil, func(second []int) trial.Next {
			if !slices.Equal(first, second) {
				return toldSum(many)
			}
			return trial.Over(api.OK, sumOf(second))
		})
	})
}

// toldLook goes on with what stands in all cells, of which these were seen already.
func toldLook(many int, seen []int, then func(seen []int) trial.Next) trial.Next {
	if len(seen) == many {
		return then(seen)
	}
	return trial.Load(len(seen), func(v int) trial.Next { return toldLook(many, append(slices.Clip(seen), v), then) })
}
