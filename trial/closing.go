package trial

import (
	"slices"
	"strconv"

	"butler/api"
)

// scopes are where the cells of each are. A kid's are made when its number is drawn, so behind those of the number ahead.
func (p Played) scopes() map[int]Scope {
	lines, last := p.Lines(), Root(p.Recipes)
	out := map[int]Scope{0: last}
	for n := 1; len(lines[n]) > 0; n++ {
		last = Scope{Number: n, At: last.End() + 1, Keys: keysOn(len(lines[n])-1, p.Recipes)}
		out[n] = last
	}
	return out
}

// stacked is what was put on a scope's DONE, in the order in which its HEAD took it.
func (p Played) stacked(x Scope) []int {
	var out []int
	head, behind := x.Done().Head(), x.Kids().At
	values, last := map[int]int{}, map[int]api.Step{} // of each slot its VALUE; of each thread its last step
	for _, s := range p.Trace {
		if s.Cell > head && s.Cell < behind && s.Op == api.StepStore {
			values[s.Cell] = s.New
		}
		if s.Cell == head && Does(s) && last[s.Thread].Op == api.StepStore { // of a Push: its LINK was stored right ahead
			out = append(out, values[x.Done().Value(s.New%One-1)])
		}
		if s.Cell >= 0 {
			last[s.Thread] = s
		}
	}
	return out
}

// places tells where in the trace such steps stand.
func (p Played) places(is func(s api.Step) bool) []int {
	var out []int
	for i, s := range p.Trace {
		if is(s) {
			out = append(out, i)
		}
	}
	return out
}

// closes are the places of a scope's StepCloses.
func (p Played) closes(number int) []int {
	return p.places(func(s api.Step) bool { return s.Op == api.StepClose && s.New == number })
}

// ended are the places of the Stores of a scope's END.
func (p Played) ended(x Scope) []int {
	return p.places(func(s api.Step) bool { return s.Op == api.StepStore && s.Cell == x.End() })
}

// Closing is T4, and P14.7.
func (p Played) Closing() error {
	scopes := p.scopes()
	for _, at := range p.places(func(s api.Step) bool { return s.Op == api.StepClose }) {
		if _, ok := scopes[p.Trace[at].New]; !ok {
			return wrong(p.Trace[at].New, p.Trace[at].Old, "a closing where there is no scope")
		}
	}
	for number := range len(scopes) {
		x := scopes[number]
		for _, err := range []error{p.reverse(x), p.needsLast(number), p.kidsFirst(number, scopes), p.nothingBehind(x)} {
			if err != nil {
				return err
			}
		}
	}
	return nil
}

// reverse: a scope's StepCloses are of keys that were built to OK there, the last one that DONE took first; if its END is told, all of them.
func (p Played) reverse(x Scope) error {
	put, at := p.stacked(x), p.closes(x.Number)
	slices.Reverse(put)
	if len(at) > len(put) || len(p.ended(x)) > 0 && len(at) != len(put) {
		return wrong(x.Number, -1, strconv.Itoa(len(put))+" were built, "+strconv.Itoa(len(at))+" are closed")
	}
	for i, where := range at {
		key := p.Trace[where].Old
		built := func(s api.Step) bool {
			return s.Op == api.StepStore && s.Cell == x.Kept(key).At && s.New == Done(api.OK)
		}
		if key != put[i] || !slices.ContainsFunc(p.Trace[:where], built) {
			return wrong(x.Number, key, "it is closed out of order, or was not built there")
		}
	}
	return nil
}

// needsLast: a key is closed ahead of those that it needs.
func (p Played) needsLast(number int) error {
	up := p.Lines()[number]
	for _, where := range p.closes(number) {
		key := p.Trace[where].Old
		for _, need := range p.Recipes[key].Needs {
			home := p.lives(up, need)
			is := func(s api.Step) bool { return s.Op == api.StepClose && s.Old == need && s.New == home }
			if slices.ContainsFunc(p.Trace[:where], is) {
				return wrong(number, key, "it is closed behind what it needs")
			}
		}
	}
	return nil
}

// kidsFirst: a scope's StepCloses, and its END, stand behind those of all its kids.
func (p Played) kidsFirst(number int, scopes map[int]Scope) error {
	own := slices.Concat(p.closes(number), p.ended(scopes[number]))
	if len(own) == 0 {
		return nil
	}
	lines := p.Lines()
	for kid := range api.MaxScopes {
		if up := lines[kid]; len(up) < 2 || up[1] != number {
			continue
		}
		its, over := p.closes(kid), p.ended(scopes[kid])
		if len(over) != 1 || slices.Max(append(its, over...)) > slices.Min(own) {
			return wrong(number, -1, "it is closed ahead of the kid "+strconv.Itoa(kid))
		}
	}
	return nil
}

// nothingBehind: END is told once; behind that nothing is built, closed, put on DONE, nor is a kid.
func (p Played) nothingBehind(x Scope) error {
	over := p.ended(x)
	if len(over) == 0 {
		return nil
	}
	late := func(s api.Step) bool {
		return (s.Op == api.StepBuild || s.Op == api.StepClose) && s.New == x.Number || s.Cell >= x.Done().At && s.Cell <= x.End() && s.Old != s.New
	}
	if len(over) > 1 || slices.ContainsFunc(p.Trace[over[0]+1:], late) {
		return wrong(x.Number, -1, "something is done there behind its END")
	}
	return nil
}

// ClosedAlike is P14.8: all Closes of one scope answer the same.
func (p Played) ClosedAlike() error {
	first := map[int]api.Answer{}
	for c, x := range p.calls {
		if c.Op != 3 || x.Code == api.ErrHouseScope {
			continue
		}
		if told, ok := first[c.A]; ok && x != told {
			return wrong(c.A, -1, "two Closes are answered otherwise")
		}
		first[c.A] = x
	}
	return nil
}

// Closes: a Close that found its scope answers what the first key says that was closed there and whose End is not 0; and there is an END, which says the same.
func (p Played) Closes() error {
	scopes := p.scopes()
	for c, x := range p.calls {
		if c.Op != 3 || x == (api.Answer{Code: api.ErrHouseScope}) {
			continue
		}
		want := api.Answer{}
		for _, where := range p.closes(c.A) {
			key := p.Trace[where].Old
			if e := []api.Errno{api.OK, api.ErrOnceFail, api.ErrOncePanic}[p.Recipes[key].End]; e != api.OK && want == (api.Answer{}) {
				want = api.Answer{Code: e, Value: key}
			}
		}
		over := p.ended(scopes[c.A])
		if x != want || len(over) != 1 || p.Trace[over[0]].New != 1+int(want.Code) {
			return wrong(c.A, -1, "its Close is answered otherwise")
		}
	}
	return nil
}
