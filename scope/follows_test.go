package scope_test

import (
	"errors"
	"slices"
	"strconv"
	"testing"

	"butler/api"
	"butler/recipe"
	"butler/trial"
	"butler/turn"
)

// What follows is read off the traces and the answers alone, without the model.

// played is a Play of a tree of these recipes.
type played struct {
	trial.Told
	l       []api.Recipe
	scripts [][]api.Call
}

func wrong(number, key int, what string) error {
	return errors.New("the key " + strconv.Itoa(key) + " of the scope " + strconv.Itoa(number) + ": " + what)
}

// line is a scope's line of ancestors: from itself up to the root.
type line []int

// lives is the scope of a key's Level in that line; -1: there is none.
func (p played) lives(up line, key int) int {
	if key < 0 || key >= len(p.l) || p.l[key].Level >= len(up) {
		return -1
	}
	return up[len(up)-1-p.l[key].Level]
}

// seen are the scopes of a Play: where the cells of each are, and its line. A kid's cells are made when its number is drawn.
type seen struct {
	cells map[int]by
	lines map[int]line
}

func (p played) keysOn(level int) int {
	many := 0
	for _, r := range p.l {
		many += trial.Number(r.Level == level)
	}
	return many
}

func (p played) scopes() seen {
	x := seen{map[int]by{0: root(p.keysOn(0))}, map[int]line{0: {0}}}
	last, call := x.cells[0], map[int]int{}
	for _, s := range p.Trace {
		if s.Op == api.StepBegin {
			call[s.Thread] = s.Old
		}
		if s.Cell == cellMany && s.New <= api.MaxScopes {
			parent := p.scripts[s.Thread][call[s.Thread]].A
			last = last.kid(s.New-1, p.keysOn(len(x.lines[parent])))
			x.cells[last.number], x.lines[last.number] = last, append(line{last.number}, x.lines[parent]...)
		}
	}
	return x
}

// neverStuck is P14.4.
func (p played) neverStuck() error {
	bad := func(x api.Answer) bool { return x.Code == api.ErrStuck || x.Code == api.ErrOnceAgain }
	if p.Stuck || p.Count(func(s api.Step) bool { return s.Op == api.StepStuck || s.Op == api.StepBroke }) > 0 {
		return errors.New("stuck, or broken")
	}
	if slices.ContainsFunc(slices.Concat(p.Answers...), bad) {
		return errors.New("a call is stuck, or asks for itself")
	}
	return nil
}

// once is P14.5: of each key and number at most one StepBuild; of those that were asked for, one.
func (p played) once() error {
	scopes, builds := p.scopes(), map[[2]int]int{}
	for _, s := range p.Trace {
		if s.Op != api.StepBuild {
			continue
		}
		if s.Cell != -1 || p.lives(scopes.lines[s.New], s.Old) != s.New {
			return wrong(s.New, s.Old, "it is built where it does not live")
		}
		if builds[[2]int{s.Old, s.New}]++; builds[[2]int{s.Old, s.New}] > 1 {
			return wrong(s.New, s.Old, "it is built twice")
		}
	}
	for asked, told := range p.asked() {
		if home := p.lives(scopes.lines[asked[0]], asked[1]); len(told) > 0 && home >= 0 && builds[[2]int{asked[1], home}] == 0 {
			return wrong(asked[0], asked[1], "it is never built")
		}
	}
	return nil
}

// refused tells whether an answer is one of those by which nothing is told of a key.
func refused(x api.Answer) bool { return x == isShut || x == noScope }

// asked are the answers of all Asks, of each scope and key, that tell something of the key.
func (p played) asked() map[[2]int][]api.Answer {
	out := map[[2]int][]api.Answer{}
	for thread, calls := range p.scripts {
		for i, c := range calls {
			if x := p.Answers[thread][i]; c.Op == 1 && !refused(x) {
				out[[2]int{c.A, c.B}] = append(out[[2]int{c.A, c.B}], x)
			}
		}
	}
	return out
}

// fate is P14.6.
func (p played) fate() error {
	scopes := p.scopes()
	for asked, told := range p.asked() {
		number, key := asked[0], asked[1]
		can, gives := false, 0
		if key >= 0 && key < len(p.l) {
			can, gives = recipe.Fate(p.l, key)
		}
		for _, x := range told {
			switch {
			case x != told[0]:
				return wrong(number, key, "two Asks are answered otherwise")
			case (x == noKey) != (p.lives(scopes.lines[number], key) < 0):
				return wrong(number, key, "whether it lives there is told otherwise")
			case x != noKey && can && x != fine(gives):
				return wrong(number, key, "it can be built, and is told otherwise")
			case !can && x.Code == api.OK:
				return wrong(number, key, "it cannot be built, and is told as if it were")
			}
		}
	}
	return p.fateAtHome(scopes)
}

// fateAtHome is T3: Asks for a key that lives in one scope, of whatever scopes, are answered alike.
func (p played) fateAtHome(scopes seen) error {
	at := map[[2]int]api.Answer{}
	for asked, told := range p.asked() {
		home := [2]int{p.lives(scopes.lines[asked[0]], asked[1]), asked[1]}
		if first, ok := at[home]; ok && home[0] >= 0 && first != told[0] {
			return wrong(home[0], home[1], "it is told otherwise from another scope")
		}
		at[home] = told[0]
	}
	return nil
}

// told truly: who is told of a ring is in one; what a key is told to lack is one of its needs, and cannot be built.
func (p played) toldTruly() error {
	rings := recipe.Rings(p.l)
	for asked, told := range p.asked() {
		key, x := asked[1], told[0]
		if x.Code != api.ErrBoxRing && x.Code != api.ErrBoxNeed {
			continue
		}
		if can, _ := recipe.Fate(p.l, x.Value); can || !slices.Contains(p.l[key].Needs, x.Value) || x.Code == api.ErrBoxRing && !slices.Contains(rings, key) {
			return wrong(asked[0], key, "it is told of a ring, or of a lack, that there is not")
		}
	}
	return nil
}

// stacked is what was put on a scope's DONE, in the order in which its HEAD took it.
func (p played) stacked(x by) []int {
	var out []int
	head := x.done() + 2*x.keys + 1
	values, last := map[int]int{}, map[int]api.Step{} // of each slot its VALUE; of each thread its last step
	for _, s := range p.Trace {
		if s.Cell > head && s.Cell < x.kids() && s.Op == api.StepStore {
			values[s.Cell] = s.New
		}
		if s.Cell == head && trial.Does(s) && last[s.Thread].Op == api.StepStore { // of a Push: its LINK was stored right ahead
			out = append(out, values[head-1+2*(s.New%trial.One)])
		}
		if s.Cell >= 0 {
			last[s.Thread] = s
		}
	}
	return out
}

// places tells where in the trace such steps stand.
func (p played) places(is func(s api.Step) bool) []int {
	var out []int
	for i, s := range p.Trace {
		if is(s) {
			out = append(out, i)
		}
	}
	return out
}

// closes are the places of a scope's StepCloses.
func (p played) closes(number int) []int {
	return p.places(func(s api.Step) bool { return s.Op == api.StepClose && s.New == number })
}

// ended are the places of the Stores of a scope's END.
func (p played) ended(x by) []int {
	return p.places(func(s api.Step) bool { return s.Op == api.StepStore && s.Cell == x.result()+1 })
}

// closing is P14.7.
func (p played) closing() error {
	scopes := p.scopes()
	for _, at := range p.places(func(s api.Step) bool { return s.Op == api.StepClose }) {
		if _, ok := scopes.cells[p.Trace[at].New]; !ok {
			return wrong(p.Trace[at].New, p.Trace[at].Old, "a closing where there is no scope")
		}
	}
	for number, x := range scopes.cells {
		for _, err := range []error{p.reverse(x), p.needsLast(number, scopes), p.kidsFirst(number, scopes), p.nothingBehind(x)} {
			if err != nil {
				return err
			}
		}
	}
	return nil
}

// reverse: a scope's StepCloses are of keys that were built to OK there, the last one that DONE took first; if its END is told, all of them.
func (p played) reverse(x by) error {
	put, at := p.stacked(x), p.closes(x.number)
	slices.Reverse(put)
	if len(at) > len(put) || len(p.ended(x)) > 0 && len(at) != len(put) {
		return wrong(x.number, -1, strconv.Itoa(len(put))+" were built, "+strconv.Itoa(len(at))+" are closed")
	}
	for i, where := range at {
		key := p.Trace[where].Old
		built := func(s api.Step) bool {
			return s.Op == api.StepStore && s.Cell == x.at+2*p.placeOf(key) && s.New == trial.Done(api.OK)
		}
		if key != put[i] || !slices.ContainsFunc(p.Trace[:where], built) {
			return wrong(x.number, key, "it is closed out of order, or was not built there")
		}
	}
	return nil
}

// placeOf is the place of a key among those of its Level.
func (p played) placeOf(key int) int {
	many := 0
	for _, r := range p.l[:key] {
		many += trial.Number(r.Level == p.l[key].Level)
	}
	return many
}

// needsLast: a key is closed ahead of those that it needs.
func (p played) needsLast(number int, scopes seen) error {
	for _, where := range p.closes(number) {
		key := p.Trace[where].Old
		for _, need := range p.l[key].Needs {
			home := p.lives(scopes.lines[number], need)
			is := func(s api.Step) bool { return s.Op == api.StepClose && s.Old == need && s.New == home }
			if slices.ContainsFunc(p.Trace[:where], is) {
				return wrong(number, key, "it is closed behind what it needs")
			}
		}
	}
	return nil
}

// kidsFirst: a scope's StepCloses, and its END, stand behind those of all its kids.
func (p played) kidsFirst(number int, scopes seen) error {
	own := slices.Concat(p.closes(number), p.ended(scopes.cells[number]))
	if len(own) == 0 {
		return nil
	}
	for kid, up := range scopes.lines {
		if len(up) < 2 || up[1] != number {
			continue
		}
		its, over := p.closes(kid), p.ended(scopes.cells[kid])
		if len(over) != 1 || slices.Max(append(its, over...)) > slices.Min(own) {
			return wrong(number, -1, "it is closed ahead of the kid "+strconv.Itoa(kid))
		}
	}
	return nil
}

// nothingBehind: END is told once; behind that nothing is built, closed, put on DONE, nor is a kid.
func (p played) nothingBehind(x by) error {
	over := p.ended(x)
	if len(over) == 0 {
		return nil
	}
	late := func(s api.Step) bool {
		return (s.Op == api.StepBuild || s.Op == api.StepClose) && s.New == x.number || s.Cell >= x.done() && s.Cell <= x.result()+1 && s.Old != s.New
	}
	if len(over) > 1 || slices.ContainsFunc(p.Trace[over[0]+1:], late) {
		return wrong(x.number, -1, "something is done there behind its END")
	}
	return nil
}

// oneClosing is P14.8: all Closes of one scope answer the same, which is what the first key says whose End is not 0; and there is an END.
func (p played) oneClosing() error {
	scopes := p.scopes()
	for thread, calls := range p.scripts {
		for i, c := range calls {
			x := p.Answers[thread][i]
			if c.Op != 3 || x == noScope {
				continue
			}
			want := fine(0)
			for _, where := range p.closes(c.A) {
				key := p.Trace[where].Old
				if e := []api.Errno{api.OK, api.ErrOnceFail, api.ErrOncePanic}[p.l[key].End]; e != api.OK && want == fine(0) {
					want = answer(e, key)
				}
			}
			over := p.ended(scopes.cells[c.A])
			if x != want || len(over) != 1 || p.Trace[over[0]].New != 1+int(want.Code) {
				return wrong(c.A, -1, "its Close is answered otherwise")
			}
		}
	}
	return nil
}

// staysShut: behind a call that was told that a scope is closed, or shut, all Asks and Opens of the same thread are refused there.
func (p played) staysShut() error {
	for thread, calls := range p.scripts {
		closed := map[int]int{}
		for i, c := range calls {
			x := p.Answers[thread][i]
			if closed[c.A] > 0 && (c.Op == 2 && x != isShut || c.Op == 1 && x != isShut && x != noKey) {
				return wrong(c.A, c.B, "it is told behind the scope's closing")
			}
			if c.Op == 3 && x != noScope || x == isShut {
				closed[c.A]++
			}
		}
	}
	return nil
}

// opened: those who open are told numbers that are there, each once.
func (p played) opened() error {
	scopes, told := p.scopes(), map[int]int{}
	for thread, calls := range p.scripts {
		for i, c := range calls {
			if x := p.Answers[thread][i]; c.Op == 2 && x.Code == api.OK {
				told[x.Value]++
				if up := scopes.lines[x.Value]; told[x.Value] > 1 || len(up) < 2 || up[1] != c.A || len(up) > api.MaxLevels || x.Value >= api.MaxScopes {
					return wrong(x.Value, -1, "it is told as opened")
				}
			}
		}
	}
	if len(told) != len(scopes.cells)-1 {
		return errors.New("a kid that nobody is told of")
	}
	return nil
}

// hold asks for all that follows.
func (p played) hold(t *testing.T, schedule []int) {
	t.Helper()
	names := []string{"P14.4", "P14.5", "P14.6", "P14.7", "P14.8", "rings", "shut", "opened"}
	for i, err := range []error{p.neverStuck(), p.once(), p.fate(), p.closing(), p.oneClosing(), p.toldTruly(), p.staysShut(), p.opened()} {
		if err != nil {
			t.Fatalf("%s: %v, %v of %v: %v: %v", names[i], schedule, p.scripts, p.l, err, p.Told)
		}
	}
}

// follows plays, and asks for all that follows.
func follows(t *testing.T, schedule []int, l []api.Recipe, calls [][]api.Call) played {
	t.Helper()
	told, e := player(l).Tell(schedule, calls)
	if e != api.OK {
		t.Fatal(schedule, l, calls, e)
	}
	p := played{told, l, calls}
	p.hold(t, schedule)
	return p
}

// who reads a Play sees what is wrong with it
func TestReaders(t *testing.T) {
	// 1 and 2 live in the kid 1, 0 and 3 in the root; 4 needs itself
	l := recipes(gives(0, 5), ending(gives(1, 7, 0), 1), ending(gives(1, 1, 1), 2), gives(0, 2, 0), gives(0, 1, 4))
	fresh := func() played {
		return follows(t, times(90, 0), l, scripts(
			script(open(0), ask(1, 2), ask(0, 3), ask(0, 4), ask(1, 3), shut(0), ask(0, 0)), script(shut(1), shut(0), open(0), ask(0, 7), ask(9, 0))))
	}
	r, k := root(3), root(3).kid(1, 2)
	place := func(p *played, s api.Step) int { return slices.Index(p.Trace, s) }
	without := func(p *played, s api.Step) {
		at := place(p, s)
		p.Trace = slices.Delete(p.Trace, at, at+1)
	}
	late := func(p *played, s api.Step) {
		without(p, s)
		p.Trace = append(p.Trace, s)
	}
	swap := func(p *played, a, b api.Step) {
		i, j := place(p, a), place(p, b)
		p.Trace[i], p.Trace[j] = b, a
	}
	closes := func(thread, key, number int) api.Step {
		return trial.Step(thread, -1, api.StepClose, key, number)
	}
	begun := trial.Step(0, -1, api.StepBuild, 0, 0)
	for i, x := range []struct {
		look  func(p played) error
		spoil func(p *played)
	}{
		{played.neverStuck, func(p *played) { p.Stuck = true }},
		{played.neverStuck, func(p *played) { p.Trace = append(p.Trace, trial.Step(0, -1, api.StepBroke, 0, 0)) }},
		{played.neverStuck, func(p *played) { p.Answers[0][5] = stuck }},
		{played.neverStuck, func(p *played) { p.Answers[1][2] = again }},
		{played.once, func(p *played) { p.Trace = append(p.Trace, begun) }},
		{played.once, func(p *played) { p.Trace[place(p, begun)].New = 1 }},
		{played.once, func(p *played) { p.Trace[place(p, begun)].New = 7 }},
		{played.once, func(p *played) { without(p, trial.Step(0, -1, api.StepBuild, 3, 0)) }},
		{played.fate, func(p *played) { p.Answers[0][2].Value++ }},
		{played.fate, func(p *played) { p.Answers[0][2] = failed(7) }},
		{played.fate, func(p *played) { p.Answers[0][3] = fine(1) }},
		{played.fate, func(p *played) { p.Answers[0][1] = noKey }},
		{played.fate, func(p *played) { p.Answers[1][3] = lacks(0) }},
		{played.fate, func(p *played) { // from another scope otherwise
			p.scripts[0][4], p.Answers[0][4] = ask(1, 4), lacks(4)
		}},
		{played.fate, func(p *played) { // two of one scope otherwise
			p.scripts[0][4], p.Answers[0][4] = ask(0, 4), lacks(4)
		}},
		{played.closing, func(p *played) { p.Trace = append(p.Trace, closes(0, 3, 0)) }},
		{played.closing, func(p *played) { p.Trace = append(p.Trace, closes(0, 3, 5)) }},
		{played.closing, func(p *played) { without(p, p.Trace[p.closes(0)[1]]) }},
		{played.closing, func(p *played) { swap(p, p.Trace[p.closes(0)[0]], p.Trace[p.closes(0)[1]]) }},
		{played.closing, func(p *played) { swap(p, p.Trace[p.closes(1)[0]], p.Trace[p.closes(0)[1]]) }},
		{played.closing, func(p *played) { p.Trace[place(p, r.keeps(0, fine(5))[1])].New = trial.Done(api.ErrOnceFail) }},
		{played.closing, func(p *played) { late(p, p.Trace[p.ended(k)[0]]) }},
		{played.closing, func(p *played) { without(p, p.Trace[p.ended(k)[0]]) }},
		{played.closing, func(p *played) { late(p, p.Trace[p.closes(1)[1]]) }},
		{played.closing, func(p *played) { late(p, begun) }},
		{played.closing, func(p *played) { p.Trace = append(p.Trace, r.bears(1, 2)...) }},
		{played.closing, func(p *played) { p.Trace = append(p.Trace, p.Trace[p.ended(r)[0]]) }},
		{played.oneClosing, func(p *played) { p.Answers[0][5].Value++ }},
		{played.oneClosing, func(p *played) { p.Answers[1][0] = failed(1) }},
		{played.oneClosing, func(p *played) { p.Answers[1][1] = isShut }},
		{played.oneClosing, func(p *played) { without(p, p.Trace[p.ended(r)[0]]) }},
		{played.oneClosing, func(p *played) { p.Trace[p.ended(k)[0]].New = 1 }},
		{played.toldTruly, func(p *played) { p.Answers[0][3].Value = 0 }},
		{played.toldTruly, func(p *played) { p.Answers[0][2] = lacks(0) }},
		{played.staysShut, func(p *played) { p.Answers[0][6] = fine(5) }},
		{played.staysShut, func(p *played) { p.Answers[1][2] = big }},
		{played.opened, func(p *played) { p.Answers[0][0].Value = 2 }},
		{played.opened, func(p *played) { p.Answers[0][0] = big }},
		{played.opened, func(p *played) { p.Answers[1][2] = fine(1) }},
	} {
		p := fresh()
		if err := x.look(p); err != nil {
			t.Error(i, err)
		}
		if x.spoil(&p); x.look(p) == nil {
			t.Errorf("the wrong Play %d passes", i)
		}
	}
	p := fresh()
	p.Trace = slices.Insert(p.Trace, 0, closes(1, 0, 0))
	if p.needsLast(1, p.scopes()) == nil || p.needsLast(0, p.scopes()) == nil {
		t.Error("a need that is closed first passes")
	}
}

func TestFollows(t *testing.T) {
	r := trial.Row(3)
	var c count
	for range 6000 {
		l := flat(&r, r.One(2, 3, 4, 5, 8, 15))
		c.of(follows(t, r.Schedule(500), l, someCalls(&r, len(l), r.One(2, 3, 4, api.MaxThreads), 6, r.One(1, 1, 3))).Told)
	}
	if c.least(ordinary()...) < 300 {
		t.Errorf("the Plays are too tame: %v", c)
	}
}

// rings are such that every key is in one, mostly: each needs the next one of its Level, and some others, too; on two Levels.
func rings(r *trial.Row, many int) []api.Recipe {
	l := make([]api.Recipe, 2*many)
	for key := range l {
		from := key / many * many // its Level's first key
		l[key] = gives(key/many, key, from+(key+1-from)%many)
		for range r.One(0, 0, 1, 2) {
			l[key].Needs = slices.Insert(l[key].Needs, r.Below(len(l[key].Needs)+1), r.Below(from+many))
		}
	}
	return l
}

// rings, from all sides at one time, in several scopes, some of which are closed meanwhile: nobody waits for ever, and one at least in each is told
func TestRings(t *testing.T) {
	r := trial.Row(4)
	one, several, woken, closed := 0, 0, 0, 0
	for range 5000 {
		many := r.One(1, 2, 2, 3, 3, 4)
		l := rings(&r, many)
		calls := scripts(script(open(0), open(0)))
		for i := range r.One(1, 2, 3, many, api.MaxThreads-1) {
			calls = append(calls, script(ask(r.Below(3), r.One(i%many, r.Below(2*many))), ask(r.Below(3), r.Below(2*many))))
		}
		if r.Below(3) == 0 {
			calls[0] = append(calls[0], shut(r.Below(3)))
		}
		p := follows(t, r.Schedule(300), l, calls)
		told := p.Count(func(s api.Step) bool { return s.Op == api.StepStore && s.New == trial.Done(api.ErrBoxRing) })
		if begun := p.Count(func(s api.Step) bool { return s.Op == api.StepBuild }); begun > 0 && told == 0 {
			t.Fatalf("nobody is told of a ring: %v of %v: %v", calls, l, p.Told)
		}
		one += trial.Number(told == 1)
		several += trial.Number(told > 1)
		woken += p.Count(trial.Wakes)
		closed += p.Count(func(s api.Step) bool { return s.Op == api.StepStore && s.Cell == root(many).result()+1 })
	}
	if min(one, several, woken, closed) < 300 {
		t.Errorf("too tame: %d times one was told, %d times several, %d woken, %d closed", one, several, woken, closed)
	}
}

// small are Plays of two and three threads that get into each other's way.
func small() []played {
	plain := recipes(gives(0, 1), gives(1, 2, 0))
	two, three := recipes(gives(0, 1, 1), gives(0, 1, 0)), recipes(gives(0, 1, 1), gives(0, 1, 2), gives(0, 1, 0))
	ends := recipes(ending(gives(0, 1), 1), ending(gives(0, 2, 0), 2), gives(0, 3, 1))
	inner := recipes(ending(gives(0, 1), 1), ending(gives(1, 2, 0), 2), gives(1, 3, 1, 1))
	var out []played
	for _, x := range []struct {
		l     []api.Recipe
		calls [][]api.Call
	}{
		{plain, scripts(script(shut(0)), script(shut(0)))},                                                 // two close
		{ends, scripts(script(ask(0, 2), shut(0)), script(shut(0), ask(0, 2)))},                            // closings that fail and panic
		{ends, scripts(script(ask(0, 1), shut(0)), script(ask(0, 0), shut(0)), script(shut(0), shut(0)))},  // three close
		{plain, scripts(script(open(0), ask(1, 1)), script(shut(0)))},                                      // the parent is closed under a kid's Ask
		{inner, scripts(script(open(0), ask(1, 2), shut(1)), script(shut(0)), script(ask(1, 1), shut(1)))}, // kid and parent are closed at one time
		{plain, scripts(script(open(0), ask(1, 0)), script(ask(0, 0), shut(0)))},                           // who waits for a builder in an ancestor
		{plain, scripts(script(open(0), ask(1, 1)), script(open(0), ask(2, 1), ask(1, 1)))},                // two kids
		{plain, scripts(script(open(0), open(1), shut(2)), script(open(1), shut(1)), script(shut(0)))},     // kids of kids
		{plain, scripts(script(open(0)), script(ask(1, 1), open(1), shut(1)))},                             // a scope that is not ready yet
		{two, scripts(script(ask(0, 0), ask(0, 1)), script(ask(0, 1), ask(0, 0)))},                         // a ring of two
		{two, scripts(script(open(0), ask(1, 0)), script(ask(0, 1), shut(0)))},                             // from two scopes
		{three, scripts(script(ask(0, 0)), script(ask(0, 1)), script(ask(0, 2)))},                          // a ring of three
		{three, scripts(script(ask(0, 0), shut(0)), script(ask(0, 2), ask(0, 1)))},                         // which is closed behind it
		{recipes(failing(0, 1), gives(1, 2, 0)), scripts(script(open(0), ask(1, 1)), script(ask(0, 0), ask(1, 1)))},
		{recipes(panics(0, 1), gives(0, 2, 0)), scripts(script(ask(0, 1), shut(0)), script(ask(0, 0), ask(0, 1)))},
	} {
		out = append(out, played{l: x.l, scripts: x.calls})
	}
	return out
}

// threads whose turns change few times, at any steps
func TestFewChanges(t *testing.T) {
	for _, x := range small() {
		for first := range 34 {
			for second := range 28 {
				for _, third := range []int{0, 1, 3, 8} {
					follows(t, slices.Concat(times(first, 0), times(second, 1), times(third, 0), times(80, -1)), x.l, x.scripts)
				}
			}
		}
	}
}

// likewise against the model, under any schedules
func TestSmall(t *testing.T) {
	r := trial.Row(12)
	for _, x := range small() {
		for range 150 {
			schedule := make([]int, 60)
			for i := range schedule {
				schedule[i] = r.Below(len(x.scripts))
			}
			x.Told = plays(t, schedule, x.l, x.scripts)
			x.hold(t, schedule)
		}
	}
}

// whatever the schedule: all orders there are, against the model, too
func TestInAllOrders(t *testing.T) {
	l := recipes(failing(0, 3))
	for i, x := range []struct {
		l     []api.Recipe
		calls [][]api.Call
	}{
		{recipes(gives(1, 1)), scripts(script(shut(0)), script(shut(0)))},
		{recipes(gives(1, 1)), scripts(script(shut(0)), script(ask(0, 0), shut(0)))},
		{l, scripts(script(ask(0, 0)), script(shut(0)))},
		{recipes(gives(0, 3, 0)), scripts(script(shut(0)), script(ask(0, 0)))},
		{recipes(gives(1, 3)), scripts(script(open(0)), script(ask(1, 1), open(1)))},
	} {
		many := 0
		for schedule := range model(x.l, x.calls).Schedules {
			played{plays(t, schedule, x.l, x.calls), x.l, x.calls}.hold(t, schedule)
			many++
		}
		if many < 100 {
			t.Errorf("%d: %d orders", i, many)
		}
	}
}

func TestFollowsAtTheLimits(t *testing.T) {
	r := trial.Row(6)
	all := append(great(), rings(&r, 10), rings(&r, 50))
	for _, schedule := range [][]int{nil, times(4000, 7, -3, 2, 2, 100)} {
		for _, l := range all {
			calls := make([][]api.Call, api.MaxThreads)
			for thread := range calls {
				for i := range api.MaxCalls {
					calls[thread] = append(calls[thread], script(ask(r.Below(i+1), r.Below(len(l))), open(r.Below(i+1)), ask(r.Below(8), r.Below(len(l))))[r.Below(3)])
				}
				calls[thread][r.One(20, 60)] = shut(r.Below(20))
			}
			calls[3][63] = shut(0)
			follows(t, schedule, l, calls)
		}
	}
}

// freely, and not alone: whoever asks, opens and closes at one time, all that the answers tell is as it must be. By turns first, since freely a ring that is not seen would never end.
func TestManyFreely(t *testing.T) {
	r := trial.Row(7)
	for i := range 300 {
		l := rings(&r, r.One(1, 2, 3))
		if i%2 == 0 {
			l = flat(&r, r.One(2, 5, 20))
		}
		calls := make([][]api.Call, r.One(2, 3, 4))
		for thread := range calls {
			calls[thread] = script(ask(0, r.Below(len(l))), open(0), ask(r.Below(3), r.Below(len(l))), ask(r.Below(3), r.Below(len(l)+1)), shut(r.Below(3)), ask(0, 0))
		}
		follows(t, nil, l, calls)
		var free *turn.World
		s := made(t, free, l)
		p := played{trial.Told{Answers: trial.Calls(free, calls, does(s))}, l, calls}
		for _, err := range []error{p.neverStuck(), p.fateFreely(), p.toldTruly(), p.staysShut(), p.closesFreely()} {
			if err != nil {
				t.Fatalf("%v of %v: %v: %v", calls, l, err, p.Answers)
			}
		}
		last := s.Close(turn.Free(200))
		if kid, e := s.Open(turn.Free(200)); s.Close(turn.Free(201)) != last || kid != nil || e != api.ErrScopeShut {
			t.Fatal(calls, l, last, e)
		}
	}
}

// fateFreely is P14.6, as far as answers alone tell it, where all kids are the root's.
func (p played) fateFreely() error {
	for asked, told := range p.asked() {
		number, key := asked[0], asked[1]
		up := line{number, 0}[trial.Number(number == 0):]
		can, gives := recipe.Fate(p.l, key)
		for _, x := range told {
			none := p.lives(up, key) < 0
			if (x == noKey) != none || !none && (can != (x.Code == api.OK) || can && x != fine(gives)) || x != told[0] {
				return wrong(number, key, "it is told otherwise")
			}
		}
	}
	return nil
}

// closesFreely is P14.8.
func (p played) closesFreely() error {
	told := map[int]api.Answer{}
	for thread, calls := range p.scripts {
		for i, c := range calls {
			x := p.Answers[thread][i]
			if c.Op != 3 || x == noScope {
				continue
			}
			if first, ok := told[c.A]; ok && x != first {
				return wrong(c.A, -1, "two Closes are answered otherwise")
			}
			told[c.A] = x
		}
	}
	return nil
}
