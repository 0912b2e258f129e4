package trial_test

import (
	"slices"
	"testing"

	"butler/api"
	"butler/trial"
)

// closed is a Play in which two threads close the root and its kid: 1 and 2 live in the kid, 0, 3 and 4 in the root; 4 needs itself.
func closed() trial.Played {
	p := trial.Played{Recipes: tree(), Scripts: [][]api.Call{
		{open(0), ask(1, 2), ask(0, 3), ask(0, 4), ask(1, 3), shut(0), ask(0, 0)},
		{shut(1), shut(0), open(0), ask(0, 7), ask(9, 0)},
	}}
	p.Told = trial.Tree(p.Recipes, p.Scripts).Play(make([]int, 90))
	return p
}

// without takes the first such step out.
func without(p *trial.Played, is func(s api.Step) bool) api.Step {
	at := slices.IndexFunc(p.Trace, is)
	s := p.Trace[at]
	p.Trace = slices.Delete(p.Trace, at, at+1)
	return s
}

// late puts it behind all others.
func late(p *trial.Played, is func(s api.Step) bool) { p.Trace = append(p.Trace, without(p, is)) }

// change changes it.
func change(p *trial.Played, is func(s api.Step) bool, to func(s *api.Step)) {
	to(&p.Trace[slices.IndexFunc(p.Trace, is)])
}

func swap(p *trial.Played, a, b func(s api.Step) bool) {
	i, j := slices.IndexFunc(p.Trace, a), slices.IndexFunc(p.Trace, b)
	p.Trace[i], p.Trace[j] = p.Trace[j], p.Trace[i]
}

// notes is the note of a key of a scope.
func notes(op, key, number int) func(s api.Step) bool {
	return func(s api.Step) bool { return s.Op == op && s.Old == key && s.New == number }
}

func stores(cell int) func(s api.Step) bool {
	return func(s api.Step) bool { return s.Op == api.StepStore && s.Cell == cell }
}

// who reads a Play sees what is wrong with it
func TestReaders(t *testing.T) {
	root := trial.Root(tree())
	kid := trial.Scope{Number: 1, At: root.End() + 1, Keys: []int{1, 2}}
	builds := func(key, number int) func(s api.Step) bool { return notes(api.StepBuild, key, number) }
	closes := func(key, number int) func(s api.Step) bool { return notes(api.StepClose, key, number) }
	note := func(op, key, number int) api.Step { return trial.Step(0, -1, op, key, number) }
	isShut, lacks := api.Answer{Code: api.ErrScopeShut}, api.Answer{Code: api.ErrBoxNeed, Value: 4}
	for i, x := range []struct {
		look  func(p trial.Played) error
		spoil func(p *trial.Played)
	}{
		{trial.Played.NeverStuck, func(p *trial.Played) { p.Stuck = true }},
		{trial.Played.NeverStuck, func(p *trial.Played) { p.Trace = append(p.Trace, note(api.StepBroke, 0, 0)) }},
		{trial.Played.NeverStuck, func(p *trial.Played) { p.Answers[0][5].Code = api.ErrStuck }},
		{trial.Played.NeverStuck, func(p *trial.Played) { p.Answers[1][2].Code = api.ErrOnceAgain }},
		{trial.Played.Once, func(p *trial.Played) { p.Trace = append(p.Trace, note(api.StepBuild, 0, 0)) }},
		{trial.Played.Once, func(p *trial.Played) { change(p, builds(0, 0), func(s *api.Step) { s.New = 1 }) }},
		{trial.Played.Once, func(p *trial.Played) { change(p, builds(0, 0), func(s *api.Step) { s.New = 7 }) }},
		{trial.Played.Once, func(p *trial.Played) { without(p, builds(3, 0)) }},
		{trial.Played.Fate, func(p *trial.Played) { p.Answers[0][2].Value++ }},
		{trial.Played.Fate, func(p *trial.Played) { p.Answers[0][2] = api.Answer{Code: api.ErrOnceFail, Value: 7} }},
		{trial.Played.Fate, func(p *trial.Played) { p.Answers[0][3] = api.Answer{Value: 1} }},
		{trial.Played.Fate, func(p *trial.Played) { p.Answers[0][1] = api.Answer{Code: api.ErrHouseKey} }},
		{trial.Played.Fate, func(p *trial.Played) { p.Answers[1][3] = lacks }},
		{trial.Played.Fate, func(p *trial.Played) { p.Scripts[0][4], p.Answers[0][4] = ask(1, 4), lacks }}, // from another scope otherwise
		{trial.Played.Fate, func(p *trial.Played) { p.Scripts[0][4], p.Answers[0][4] = ask(0, 4), lacks }}, // of one scope otherwise
		{trial.Played.Closing, func(p *trial.Played) { p.Trace = append(p.Trace, note(api.StepClose, 3, 0)) }},
		{trial.Played.Closing, func(p *trial.Played) { p.Trace = append(p.Trace, note(api.StepClose, 3, 5)) }},
		{trial.Played.Closing, func(p *trial.Played) { without(p, closes(0, 0)) }},
		{trial.Played.Closing, func(p *trial.Played) { swap(p, closes(3, 0), closes(0, 0)) }},
		{trial.Played.Closing, func(p *trial.Played) { swap(p, closes(2, 1), closes(0, 0)) }},
		{trial.Played.Closing, func(p *trial.Played) { // it was not built to OK
			change(p, stores(root.Kept(0).At), func(s *api.Step) { s.New = trial.Done(api.ErrOnceFail) })
		}},
		{trial.Played.Closing, func(p *trial.Played) { late(p, stores(kid.End())) }},
		{trial.Played.Closing, func(p *trial.Played) { without(p, stores(kid.End())) }},
		{trial.Played.Closing, func(p *trial.Played) { late(p, closes(1, 1)) }},
		{trial.Played.Closing, func(p *trial.Played) { late(p, builds(0, 0)) }},
		{trial.Played.Closing, func(p *trial.Played) { p.Trace = append(p.Trace, trial.Step(0, root.Kids().Head(), api.StepCas, 0, 1)) }},
		{trial.Played.Closing, func(p *trial.Played) { p.Trace = append(p.Trace, trial.Step(0, root.End(), api.StepStore, 1, 1)) }},
		{trial.Played.Closes, func(p *trial.Played) { p.Answers[0][5].Value++ }},
		{trial.Played.Closes, func(p *trial.Played) { p.Answers[1][0] = api.Answer{Code: api.ErrOnceFail, Value: 1} }},
		{trial.Played.Closes, func(p *trial.Played) { p.Answers[1][1] = isShut }},
		{trial.Played.Closes, func(p *trial.Played) { without(p, stores(root.End())) }},
		{trial.Played.Closes, func(p *trial.Played) { change(p, stores(kid.End()), func(s *api.Step) { s.New = 1 }) }},
		{trial.Played.ClosedAlike, func(p *trial.Played) { p.Answers[0][5].Value++ }},
		{trial.Played.ClosedAlike, func(p *trial.Played) { p.Answers[1][1] = isShut }},
		{trial.Played.ToldTruly, func(p *trial.Played) { p.Answers[0][3].Value = 0 }},
		{trial.Played.ToldTruly, func(p *trial.Played) { p.Answers[0][2] = api.Answer{Code: api.ErrBoxNeed, Value: 0} }},
		{trial.Played.StaysShut, func(p *trial.Played) { p.Answers[0][6] = api.Answer{Value: 5} }},
		{trial.Played.StaysShut, func(p *trial.Played) { p.Answers[1][2] = api.Answer{Code: api.ErrBig} }},
		{trial.Played.Opened, func(p *trial.Played) { p.Answers[0][0].Value = 2 }},
		{trial.Played.Opened, func(p *trial.Played) { p.Answers[0][0].Value = 0 }},
		{trial.Played.Opened, func(p *trial.Played) { p.Answers[0][0].Value = 50 }},
		{trial.Played.Opened, func(p *trial.Played) { p.Answers[1][2] = api.Answer{Value: 1} }},
		{trial.Played.Opened, func(p *trial.Played) { p.Scripts[0][0].A = 1 }},
		{trial.Played.Drawn, func(p *trial.Played) { p.Answers[0][0].Value = 2 }},
		{trial.Played.Drawn, func(p *trial.Played) { p.Answers[0][0].Code = api.ErrBig }},
		{trial.Played.Drawn, func(p *trial.Played) { p.Answers[1][2] = api.Answer{Value: 2} }},
		{trial.Played.Drawn, func(p *trial.Played) { without(p, stores(2)) }},
		{trial.Played.Drawn, func(p *trial.Played) { change(p, stores(2), func(s *api.Step) { s.New = 0 }) }},
	} {
		p := closed()
		if err := p.Follows(); err != nil || x.look(p) != nil {
			t.Fatal(i, err)
		}
		if x.spoil(&p); x.look(p) == nil || p.Follows() == nil {
			t.Errorf("the wrong Play %d passes", i)
		}
	}
}

// a need that is closed first, in the same scope or around it
func TestNeedsLast(t *testing.T) {
	p := closed()
	if p.NeedsLast(0) != nil || p.NeedsLast(1) != nil {
		t.Error("it does not pass")
	}
	p.Trace = slices.Insert(p.Trace, 0, trial.Step(1, -1, api.StepClose, 0, 0))
	if p.NeedsLast(0) == nil || p.NeedsLast(1) == nil {
		t.Error("a need that is closed first passes")
	}
}

// a scope has a line, if whoever opened it was told so, and likewise all around it
func TestLines(t *testing.T) {
	p := trial.Played{Scripts: [][]api.Call{{open(0), open(2), open(0)}, {open(0), open(1), open(7)}}}
	p.Answers = [][]api.Answer{{{Value: 2}, {Value: 4}, {Code: api.ErrBig}}, {{Value: 1}, {Value: 3}, {Value: 8}}}
	lines := p.Lines()
	want := [][]int{{0}, {1, 0}, {2, 0}, {3, 1, 0}, {4, 2, 0}, nil}
	for n, x := range want {
		if !slices.Equal(lines[n], x) {
			t.Error(n, lines[n])
		}
	}
	if len(lines) != 5 {
		t.Error(lines)
	}
}

// of a Play of no world the answers tell
func TestFollowsFreely(t *testing.T) {
	p := closed()
	p.Trace = nil
	if err := p.FollowsFreely(); err != nil {
		t.Error(err)
	}
	if p.Answers[0][2].Value++; p.FollowsFreely() == nil {
		t.Error("a wrong answer passes")
	}
}
