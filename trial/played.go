package trial

import (
	"errors"
	"slices"
	"strconv"

	"butler/api"
	"butler/recipe"
)

// Played is what a Play of a tree of scopes told (chapters 14 and 15), and of what. What follows of every schedule is read off it, without a game; of a Play of no world, which has no trace, off its answers alone.
type Played struct {
	Told
	Recipes []api.Recipe
	Scripts [][]api.Call
}

// reader is something that follows of every schedule, and how it is read off: nil, if it is so.
type reader struct {
	name string
	look func(p Played) error
}

func freely() []reader {
	return []reader{
		{"never stuck", Played.NeverStuck},
		{"opened", Played.Opened},
		{"fate", Played.Fate},
		{"told truly", Played.ToldTruly},
		{"one closing", Played.ClosedAlike},
		{"stays shut", Played.StaysShut},
	}
}

func byTurns() []reader {
	return append(freely(), []reader{
		{"once", Played.Once},
		{"drawn", Played.Drawn},
		{"closing", Played.Closing},
		{"closes", Played.Closes},
	}...)
}

// Follows is nil, if all that follows of every schedule is so.
func (p Played) Follows() error { return p.read(byTurns()) }

// FollowsFreely is nil, if all of that is so which answers alone tell.
func (p Played) FollowsFreely() error { return p.read(freely()) }

func (p Played) read(l []reader) error {
	for _, x := range l {
		if err := x.look(p); err != nil {
			return errors.New(x.name + ": " + err.Error())
		}
	}
	return nil
}

func wrong(number, key int, what string) error {
	return errors.New("the key " + strconv.Itoa(key) + " of the scope " + strconv.Itoa(number) + ": " + what)
}

// calls goes through all calls, with their answers.
func (p Played) calls(yield func(c api.Call, x api.Answer) bool) {
	for thread, calls := range p.Scripts {
		for i, c := range calls {
			if !yield(c, p.Answers[thread][i]) {
				return
			}
		}
	}
}

// Lines are the scopes that were there in the end: of each its line of ancestors, from itself up to the root. Whoever opened one was told its number, which is above that of the scope around it.
func (p Played) Lines() map[int][]int {
	parents := map[int]int{}
	for c, x := range p.calls {
		if c.Op == 2 && x.Code == api.OK {
			parents[x.Value] = c.A
		}
	}
	out := map[int][]int{0: {0}}
	for n := 1; n < api.MaxScopes; n++ {
		parent, told := parents[n]
		if up := out[parent]; told && len(up) > 0 {
			out[n] = append([]int{n}, up...)
		}
	}
	return out
}

// lives is the scope of a key's Level in such a line; -1: there is none.
func (p Played) lives(up []int, key int) int {
	if key < 0 || key >= len(p.Recipes) || p.Recipes[key].Level >= len(up) {
		return -1
	}
	return up[len(up)-1-p.Recipes[key].Level]
}

// NeverStuck is T2, and P14.4.
func (p Played) NeverStuck() error {
	if p.Stuck || p.Count(func(s api.Step) bool { return s.Op == api.StepStuck || s.Op == api.StepBroke }) > 0 {
		return errors.New("the world is stuck, or a thread broken")
	}
	for c, x := range p.calls {
		if x.Code == api.ErrStuck || x.Code == api.ErrOnceAgain {
			return wrong(c.A, c.B, "a call is stuck, or asks for itself")
		}
	}
	return nil
}

// Opened: those who open are told numbers from 1 on, each once, of scopes whose Level may be.
func (p Played) Opened() error {
	lines, told := p.Lines(), map[int]int{}
	for c, x := range p.calls {
		if c.Op != 2 || x.Code != api.OK {
			continue
		}
		told[x.Value]++
		if up := lines[x.Value]; told[x.Value] > 1 || len(up) < 2 || up[1] != c.A || len(up) > api.MaxLevels {
			return wrong(x.Value, -1, "it is told as opened")
		}
	}
	for n := range len(told) {
		if told[n+1] == 0 {
			return wrong(n+1, -1, "nobody is told of it, but of one behind it")
		}
	}
	return nil
}

// asks goes through all Asks that tell something of their key, with their answers.
func (p Played) asks(yield func(c api.Call, x api.Answer) bool) {
	for c, x := range p.calls {
		refused := x == api.Answer{Code: api.ErrScopeShut} || x == api.Answer{Code: api.ErrHouseScope}
		if c.Op == 1 && !refused && !yield(c, x) {
			return
		}
	}
}

// Fate is T3, and P14.6.
func (p Played) Fate() error {
	lines, told := p.Lines(), map[[2]int]api.Answer{}
	for c, x := range p.asks {
		home := p.lives(lines[c.A], c.B)
		can, gives := recipe.Fate(p.Recipes, c.B)
		before, ok := told[[2]int{home, c.B}]
		switch {
		case (x == api.Answer{Code: api.ErrHouseKey}) != (home < 0):
			return wrong(c.A, c.B, "whether it lives there is told otherwise")
		case home >= 0 && can && x != api.Answer{Value: gives}:
			return wrong(c.A, c.B, "it can be built, and is told otherwise")
		case home >= 0 && !can && x.Code == api.OK:
			return wrong(c.A, c.B, "it cannot be built, and is told as if it were")
		case ok && x != before:
			return wrong(c.A, c.B, "two Asks of it are answered otherwise, of one scope or of several")
		}
		told[[2]int{home, c.B}] = x
	}
	return nil
}

// ToldTruly: who is told of a ring is in one; what a key is told to lack is one of its needs, and cannot be built.
func (p Played) ToldTruly() error {
	rings := recipe.Rings(p.Recipes)
	for c, x := range p.asks {
		if x.Code != api.ErrBoxRing && x.Code != api.ErrBoxNeed {
			continue
		}
		if can, _ := recipe.Fate(p.Recipes, x.Value); can || !slices.Contains(p.Recipes[c.B].Needs, x.Value) || x.Code == api.ErrBoxRing && !slices.Contains(rings, c.B) {
			return wrong(c.A, c.B, "it is told of a ring, or of a lack, that there is not")
		}
	}
	return nil
}

// StaysShut: behind a call that was told that a scope is closed, or shut, all Asks and Opens of the same thread are refused there.
func (p Played) StaysShut() error {
	for thread, calls := range p.Scripts {
		closed := map[int]int{}
		for i, c := range calls {
			x := p.Answers[thread][i]
			shut := x.Code == api.ErrScopeShut
			if closed[c.A] > 0 && (c.Op == 2 && !shut || c.Op == 1 && !shut && x.Code != api.ErrHouseKey) {
				return wrong(c.A, c.B, "it is told behind the scope's closing")
			}
			if c.Op == 3 && x.Code != api.ErrHouseScope || shut {
				closed[c.A]++
			}
		}
	}
	return nil
}

// Once is T1, and P14.5: of each key and number at most one StepBuild; of those that were asked for, one.
func (p Played) Once() error {
	lines, builds := p.Lines(), map[[2]int]int{}
	for _, s := range p.Trace {
		if s.Op != api.StepBuild {
			continue
		}
		if s.Cell != noCell || p.lives(lines[s.New], s.Old) != s.New {
			return wrong(s.New, s.Old, "it is built where it does not live")
		}
		if builds[[2]int{s.Old, s.New}]++; builds[[2]int{s.Old, s.New}] > 1 {
			return wrong(s.New, s.Old, "it is built twice")
		}
	}
	for c := range p.asks {
		if home := p.lives(lines[c.A], c.B); home >= 0 && builds[[2]int{c.B, home}] == 0 {
			return wrong(c.A, c.B, "it is never built")
		}
	}
	return nil
}

// Drawn: whoever draws a number of a kid is told it, and makes it known.
func (p Played) Drawn() error {
	lines, call, drawn, ready := p.Lines(), map[int]int{}, 0, 0
	for _, s := range p.Trace {
		switch {
		case s.Op == api.StepBegin:
			call[s.Thread] = s.Old
		case s.Cell == cellMany && s.New <= api.MaxScopes:
			drawn++
			if i := call[s.Thread]; p.Answers[s.Thread][i] != (api.Answer{Value: s.New - 1}) || p.Scripts[s.Thread][i].Op != 2 {
				return wrong(s.New-1, -1, "who draws its number is not told it")
			}
		case s.Cell > cellReady && s.Cell < cellReady+api.MaxScopes && s.Op == api.StepStore:
			if ready++; s.New != 1 || len(lines[s.Cell-cellReady]) == 0 {
				return wrong(s.Cell-cellReady, -1, "it is made known otherwise")
			}
		}
	}
	if drawn != len(lines)-1 || ready != drawn {
		return errors.New("there are " + strconv.Itoa(len(lines)) + " scopes, and " + strconv.Itoa(drawn) + " drawn, " + strconv.Itoa(ready) + " made known")
	}
	return nil
}
