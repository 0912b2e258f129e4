package trial

import (
	"errors"
	"math"
	"slices"
	"strconv"

	"butler/api"
	"butler/turn"
)

// Player is a layer's Play, with all chosen that it is handed beside a world and scripts.
type Player func(w *turn.World, scripts [][]api.Call) ([][]api.Answer, api.Errno)

// Tell is what a Play tells in a new world with that schedule.
func (p Player) Tell(schedule []int, scripts [][]api.Call) (Told, api.Errno) {
	w := turn.New(schedule)
	a, e := p(w, scripts)
	return Told{Trace: w.Trace(), Answers: a, Stuck: w.Stuck()}, e
}

// Calls lets a thread for each script carry its calls out. Unlike a Play it notes nothing, and goes on where the world is stuck.
func Calls(w *turn.World, scripts [][]api.Call, do func(t *turn.Thread, c api.Call) api.Answer) [][]api.Answer {
	answers := make([][]api.Answer, len(scripts))
	var bodies []func(*turn.Thread)
	for i, calls := range scripts {
		bodies = append(bodies, func(t *turn.Thread) {
			for _, c := range calls {
				answers[i] = append(answers[i], do(t, c))
			}
		})
	}
	w.Run(bodies)
	return answers
}

// refusal is what every Play refuses, and how.
type refusal struct {
	w       *turn.World
	scripts [][]api.Call
	want    api.Errno
}

// refusals are those of DOC.md's W8, where fine is a script that may be.
func refusals(fresh, ran *turn.World, fine []api.Call) []refusal {
	one, long := [][]api.Call{fine}, make([]api.Call, api.MaxCalls+1)
	nine := slices.Repeat(one, api.MaxThreads+1)
	return []refusal{
		{nil, one, api.ErrArg},
		{ran, one, api.ErrArg},
		{fresh, nil, api.ErrArg},
		{fresh, [][]api.Call{}, api.ErrArg},
		{nil, nil, api.ErrArg},
		{ran, nil, api.ErrArg},
		{fresh, nine, api.ErrArg},
		{fresh, make([][]api.Call, api.MaxThreads+1), api.ErrArg},
		{fresh, [][]api.Call{long}, api.ErrLong},
		{fresh, [][]api.Call{slices.Repeat(long, 20)}, api.ErrLong},
		{fresh, [][]api.Call{fine, nil, long}, api.ErrLong},
		{fresh, append(slices.Clone(nine), long), api.ErrLong},
		{nil, [][]api.Call{long}, api.ErrLong},
		{ran, [][]api.Call{fine, long}, api.ErrLong},
		{ran, append(slices.Clone(nine), long), api.ErrLong},
	}
}

// Refuses is nil, if a Play refuses what every Play does, and has done nothing then. fine is a script that it takes.
func (p Player) Refuses(fine []api.Call) error {
	ran, fresh := turn.New(nil), turn.New(nil)
	if _, e := p(ran, [][]api.Call{fine}); e != api.OK {
		return errors.New("it refuses what is fine: " + e.Error())
	}
	if err := p.refusesEach(fresh, ran, refusals(fresh, ran, fine)); err != nil {
		return err
	}
	if a, e := p(fresh, [][]api.Call{fine}); e != api.OK || len(a) != 1 {
		return errors.New("it refuses what is fine behind what is not: " + e.Error())
	}
	return nil
}

// RefusesAll is nil, if a Play refuses everything, since something else that it is handed is an ErrArg; but first what is too long.
func (p Player) RefusesAll(fine []api.Call) error { return p.RefusesBy(api.ErrArg, fine) }

// RefusesBy is nil, if a Play refuses by that error what it would take but for something else that it is handed; but first what every Play refuses.
func (p Player) RefusesBy(want api.Errno, fine []api.Call) error {
	ran, fresh := turn.New(nil), turn.New(nil)
	ran.Run([]func(*turn.Thread){func(*turn.Thread) {}})
	all := append(refusals(fresh, ran, fine), refusal{fresh, [][]api.Call{fine}, want}, refusal{fresh, [][]api.Call{nil}, want})
	return p.refusesEach(fresh, ran, all)
}

func (p Player) refusesEach(fresh, ran *turn.World, all []refusal) error {
	before := ran.Trace()
	for i, x := range all {
		a, e := p(x.w, x.scripts)
		if e != x.want || len(a) != 0 {
			return errors.New("the refusal " + strconv.Itoa(i) + " has " + strconv.Itoa(len(a)) + " answers, and is: " + e.Error())
		}
		if fresh.Ran() || len(fresh.Trace()) != 0 || !slices.Equal(ran.Trace(), before) {
			return errors.New("the refusal " + strconv.Itoa(i) + " has done something")
		}
	}
	return nil
}

// Keeps is nil, if a Play of that script, twice, neither changes what it is handed nor hangs on it behind its end, and answers new memory (W6).
func (p Player) Keeps(calls []api.Call) error {
	mark := api.Call{Op: -77, A: 99, B: 98, C: 97}
	first, second := Roomy(mark, calls...), Roomy(mark, calls...)
	scripts := Roomy([]api.Call{mark}, first, second, nil, first)
	w := turn.New([]int{1, 0})
	a, e := p(w, scripts)
	if e != api.OK {
		return errors.New("it is refused: " + e.Error())
	}
	given := append(slices.Clone(calls), mark, mark)
	if room := len(given); !slices.Equal(first[:room], given) || !slices.Equal(second[:room], given) {
		return errors.New("a script was changed")
	}
	if s := scripts[:6]; !sameList(s[0], first) || !sameList(s[1], second) || s[2] != nil || !sameList(s[3], first) || !slices.Equal(s[4], []api.Call{mark}) || !slices.Equal(s[5], []api.Call{mark}) {
		return errors.New("the list of scripts was changed")
	}
	var want [][]api.Answer
	for _, l := range a {
		want = append(want, slices.Clone(l))
	}
	trace := w.Trace()
	clear(first)
	clear(second)
	clear(scripts)
	if !Same(a, want) || !slices.Equal(w.Trace(), trace) {
		return errors.New("what was answered hangs on what was handed in")
	}
	if Shares(a) {
		return errors.New("two lists of the answer share memory")
	}
	return nil
}

// sameList tells whether two lists are one, not only alike.
func sameList(a, b []api.Call) bool {
	return len(a) == len(b) && (len(a) == 0 || &a[0] == &b[0])
}

// Strange are Ops that there are not, where those from 1 to most are; some look like these, cut off.
func Strange(most int) []int {
	return []int{0, most + 1, most + 2, -1, -most, 1 << 8, 1<<8 + 1, 1<<16 + most, 1<<32 + 1, 1<<32 + most, math.MaxInt, math.MinInt, math.MinInt + 1}
}
