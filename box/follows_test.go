package box_test

import (
	"errors"
	"slices"
	"strconv"
	"testing"

	"butler/api"
	"butler/recipe"
	"butler/trial"
	"butler/turn"
)

// What follows is read off the traces and the answers alone, without the model.

// played is a Play of boxes of these recipes.
type played struct {
	trial.Told
	l       []api.Recipe
	scripts [][]api.Call
}

func wrongKey(key int, what string) error {
	return errors.New("the key " + strconv.Itoa(key) + ": " + what)
}

// once is P13.4: of each key at most one StepBuild; of those that were asked for, one.
func (p played) once() error {
	builds, asked := make([]int, len(p.l)), make([]int, len(p.l))
	for _, s := range p.Trace {
		if s.Op != api.StepBuild {
			continue
		}
		if s.Old < 0 || s.Old >= len(p.l) || s.New != 0 || s.Cell != -1 {
			return errors.New("a build of what there is not")
		}
		builds[s.Old]++
	}
	for _, c := range slices.Concat(p.scripts...) {
		if c.Op == 1 && c.A >= 0 && c.A < len(p.l) {
			asked[c.A] = 1
		}
	}
	for key, many := range builds {
		if many > 1 || many < asked[key] {
			return wrongKey(key, "it is built "+strconv.Itoa(many)+" times")
		}
	}
	return nil
}

// neverStuck is P13.5.
func (p played) neverStuck() error {
	bad := func(x api.Answer) bool { return x.Code == api.ErrStuck || x.Code == api.ErrOnceAgain }
	if p.Stuck || p.Count(func(s api.Step) bool { return s.Op == api.StepStuck || s.Op == api.StepBroke }) > 0 {
		return errors.New("stuck, or broken")
	}
	if slices.ContainsFunc(slices.Concat(p.Answers...), bad) {
		return errors.New("a call is stuck, or asks for itself")
	}
	return nil
}

// answers are all that calls told of each key that there is.
func (p played) answers() [][]api.Answer {
	out := make([][]api.Answer, len(p.l))
	for thread, script := range p.scripts {
		for i, c := range script {
			if c.Op == 1 && c.A >= 0 && c.A < len(p.l) {
				out[c.A] = append(out[c.A], p.Answers[thread][i])
			}
		}
	}
	return out
}

// fate is P13.6, of keys that there are; and of others.
func (p played) fate() error {
	for key, told := range p.answers() {
		can, gives := recipe.Fate(p.l, key)
		for _, x := range told {
			switch {
			case can && x != fine(gives):
				return wrongKey(key, "it can be built, and is told otherwise")
			case !can && x.Code == api.OK:
				return wrongKey(key, "it cannot be built, and is told as if it were")
			case x != told[0]:
				return wrongKey(key, "two calls are answered otherwise")
			}
		}
	}
	for thread, script := range p.scripts {
		for i, c := range script {
			if x := p.Answers[thread][i]; c.Op == 1 && (c.A < 0 || c.A >= len(p.l)) != (x == none) || c.Op != 1 && x != arg {
				return wrongKey(c.A, "whether there is such a key is told otherwise")
			}
		}
	}
	return nil
}

// needsFirst is P13.7: the Store of a WORD that says OK stands behind those of all its needs, which say so, too.
func (p played) needsFirst() error {
	built := map[int]int{}
	for _, s := range p.Trace {
		if s.Op != api.StepStore || s.Cell >= 2*len(p.l) || s.Cell%2 != 0 || s.New != trial.Done(api.OK) {
			continue
		}
		key := s.Cell / 2
		for _, need := range p.l[key].Needs {
			if built[need] == 0 {
				return wrongKey(key, "it is built ahead of what it needs")
			}
		}
		built[key]++
	}
	for key, told := range p.answers() {
		if len(told) > 0 && (told[0].Code == api.OK) != (built[key] == 1) {
			return wrongKey(key, "it is not built as it is told")
		}
	}
	return nil
}

// toldTruly is what P12.4 makes of it: who is told of a ring is in one; what a key is told to lack is one of its needs, and cannot be built.
func (p played) toldTruly() error {
	rings := recipe.Rings(p.l)
	for key, told := range p.answers() {
		for _, x := range told {
			if x.Code != api.ErrBoxRing && x.Code != api.ErrBoxNeed {
				continue
			}
			if !slices.Contains(p.l[key].Needs, x.Value) {
				return wrongKey(key, "it does not need what it is told to lack")
			}
			if can, _ := recipe.Fate(p.l, x.Value); can || x.Code == api.ErrBoxRing && !slices.Contains(rings, key) {
				return wrongKey(key, "it is told of a ring, or of a lack, that there is not")
			}
		}
	}
	return nil
}

// hold asks for all that follows.
func (p played) hold(t *testing.T, schedule []int) {
	t.Helper()
	for i, err := range []error{p.once(), p.neverStuck(), p.fate(), p.needsFirst(), p.toldTruly()} {
		if err != nil {
			t.Fatalf("%s: %v, %v of %v: %v: %v", []string{"P13.4", "P13.5", "P13.6", "P13.7", "P12.4"}[i], schedule, p.scripts, p.l, err, p.Told)
		}
	}
}

// follows plays, and asks for all that follows.
func follows(t *testing.T, schedule []int, l []api.Recipe, scripts [][]api.Call) played {
	t.Helper()
	told, e := player(l).Tell(schedule, scripts)
	if e != api.OK {
		t.Fatal(schedule, l, scripts, e)
	}
	p := played{told, l, scripts}
	p.hold(t, schedule)
	return p
}

// who reads a Play sees what is wrong with it
func TestReaders(t *testing.T) {
	fresh := func() played {
		return follows(t, nil, recipes(gives(5), gives(7, 0), gives(1, 2)), [][]api.Call{gets(1), gets(2, 1, 3)})
	}
	place := func(p played, s api.Step) int { return slices.Index(p.Trace, s) }
	begun, built := by{0, 3}.takes(0)[1], by{0, 3}.ends(0, api.OK)[0]
	for i, x := range []struct {
		look  func(p played) error
		spoil func(p *played)
	}{
		{played.once, func(p *played) { p.Trace = append(p.Trace, begun) }},
		{played.once, func(p *played) { p.Trace = append(p.Trace, trial.Step(0, -1, api.StepBuild, 3, 0)) }},
		{played.once, func(p *played) {
			p.Trace = slices.DeleteFunc(p.Trace, func(s api.Step) bool { return s.Op == api.StepBuild && s.Old == 2 })
		}},
		{played.neverStuck, func(p *played) { p.Stuck = true }},
		{played.neverStuck, func(p *played) { p.Trace = append(p.Trace, trial.Step(0, -1, api.StepBroke, 0, 0)) }},
		{played.neverStuck, func(p *played) { p.Answers[0][0] = stuck }},
		{played.neverStuck, func(p *played) { p.Answers[1][2] = again }},
		{played.fate, func(p *played) { p.Answers[0][0].Value++ }},
		{played.fate, func(p *played) { p.Answers[0][0] = failed(12) }},
		{played.fate, func(p *played) { p.Answers[1][0] = fine(1) }},
		{played.fate, func(p *played) { p.scripts[0], p.Answers[0] = gets(2), []api.Answer{lacks(2)} }},
		{played.fate, func(p *played) { p.Answers[1][2] = failed(0) }},
		{played.needsFirst, func(p *played) { // the need's Store goes behind all
			at := place(*p, built)
			p.Trace = append(slices.Delete(p.Trace, at, at+1), built)
		}},
		{played.needsFirst, func(p *played) { p.Trace[place(*p, built)].New = trial.Done(api.ErrOnceFail) }},
		{played.toldTruly, func(p *played) { p.Answers[1][0].Value = 1 }},
		{played.toldTruly, func(p *played) { p.Answers[0][0] = ring(0) }},
	} {
		p := fresh()
		if err := x.look(p); err != nil {
			t.Error(i, err)
		}
		if x.spoil(&p); x.look(p) == nil {
			t.Errorf("the wrong Play %d passes", i)
		}
	}
}

func TestFollows(t *testing.T) {
	r := trial.Row(3)
	var c count
	for range 8000 {
		l := r.Recipes(r.One(2, 3, 4, 5, 8, 15))
		c.of(follows(t, r.Schedule(300), l, someGets(&r, len(l), r.One(2, 3, 4, api.MaxThreads), 4, r.One(1, 1, 2))).Told)
	}
	if c.least(api.OK, api.ErrOnceFail, api.ErrOncePanic, api.ErrBoxRing, api.ErrBoxNeed, api.ErrHouseKey, api.ErrArg) < 500 {
		t.Errorf("the Plays are too tame: %v", c)
	}
}

// rings are such that every key is in one, mostly: each needs the next one, and some others, too.
func rings(r *trial.Row, many int) []api.Recipe {
	l := make([]api.Recipe, many)
	for key := range l {
		l[key] = gives(key, (key+1)%many)
		for range r.One(0, 0, 1, 2) {
			l[key].Needs = slices.Insert(l[key].Needs, r.Below(len(l[key].Needs)+1), r.Below(many))
		}
	}
	return l
}

// rings, from all sides at one time: nobody waits for ever, and one at least in each is told
func TestRings(t *testing.T) {
	r := trial.Row(4)
	one, several, woken := 0, 0, 0
	for range 8000 {
		many := r.One(1, 2, 2, 3, 3, 4, 5, 8)
		l := rings(&r, many)
		var scripts [][]api.Call
		for i := range r.One(1, 2, 3, many, api.MaxThreads) {
			scripts = append(scripts, gets(r.One(i%many, r.Below(many)), r.Below(many)))
		}
		p := follows(t, r.Schedule(150), l, scripts)
		told := 0
		for _, s := range p.Trace {
			told += trial.Number(s.Op == api.StepStore && s.New == trial.Done(api.ErrBoxRing))
		}
		if told == 0 {
			t.Fatalf("nobody is told of a ring: %v of %v: %v", scripts, l, p.Told)
		}
		one += trial.Number(told == 1)
		several += trial.Number(told > 1)
		woken += p.Count(trial.Wakes)
	}
	if min(one, several, woken) < 1000 {
		t.Errorf("too tame: %d times one was told, %d times several, %d woken", one, several, woken)
	}
}

func TestFollowsAtTheLimits(t *testing.T) {
	r := trial.Row(6)
	all := append(great(), rings(&r, 30), rings(&r, api.MaxKeys))
	for range 4 {
		all = append(all, r.Recipes(api.MaxKeys))
	}
	for _, schedule := range [][]int{nil, times(4000, 7, -3, 2, 2, 100)} {
		for _, l := range all {
			scripts := make([][]api.Call, api.MaxThreads)
			for i := range scripts {
				for range api.MaxCalls {
					scripts[i] = append(scripts[i], gets(r.Below(len(l)))...)
				}
			}
			follows(t, schedule, l, scripts)
		}
	}
}

// whatever the schedule: all orders there are, against the model, too
func TestInAllOrders(t *testing.T) {
	for i, x := range []struct {
		l       []api.Recipe
		scripts [][]api.Call
	}{
		{recipes(gives(1)), [][]api.Call{gets(0), gets(0)}},
		{recipes(panics(-1)), [][]api.Call{gets(0, 0), gets(0)}},
		{recipes(gives(1, 0)), [][]api.Call{gets(0), gets(0)}},
		{recipes(failing(1), gives(2, 0)), [][]api.Call{gets(1), gets(0)}},
		{recipes(gives(1), gives(2, 0)), [][]api.Call{gets(1), gets(1)}},
		{recipes(gives(1), gives(2, 0, 0)), [][]api.Call{gets(1), gets(0)}},
		{recipes(gives(1, 1), gives(1, 0)), [][]api.Call{gets(0), gets(1)}},
		{recipes(gives(1), gives(1, 1), gives(1, 0, 1)), [][]api.Call{gets(2), gets(1)}},
		{recipes(gives(1), gives(1)), [][]api.Call{gets(0), gets(1), gets(0)}},
		{recipes(gives(1, 1), gives(1, 0)), [][]api.Call{gets(0, 1), gets(1, 0)}},
		{recipes(gives(1, 1), gives(1, 2), gives(1, 0)), [][]api.Call{gets(0), gets(1)}},
		{recipes(panics(1), gives(2, 0)), [][]api.Call{gets(1, 0), gets(0, 1)}},
	} {
		many := 0
		for schedule := range model(x.l, x.scripts).Schedules {
			played{plays(t, schedule, x.l, x.scripts), x.l, x.scripts}.hold(t, schedule)
			many++
		}
		if many < 10 {
			t.Errorf("%d: %d orders", i, many)
		}
	}
}

// two and three threads whose turns change few times, at any steps
func TestFewChanges(t *testing.T) {
	for _, x := range []struct {
		l       []api.Recipe
		scripts [][]api.Call
	}{
		{recipes(gives(1, 1), gives(1, 0)), [][]api.Call{gets(0, 1), gets(1, 0)}},
		{recipes(gives(1, 1), gives(1, 2), gives(1, 0)), [][]api.Call{gets(0), gets(2)}},
		{recipes(gives(1, 1), gives(1, 2), gives(1, 0)), [][]api.Call{gets(0), gets(1), gets(2)}},
		{recipes(gives(1), gives(2, 0), gives(3, 1, 0)), [][]api.Call{gets(2), gets(1, 2)}},
		{recipes(failing(1), gives(2, 0), gives(3, 1, 0)), [][]api.Call{gets(2), gets(1, 2), gets(0)}},
		{recipes(panics(1), gives(2), gives(3, 1, 0), gives(4, 2, 1)), [][]api.Call{gets(3), gets(2), gets(3)}},
		{recipes(gives(1, 2), gives(2, 0), gives(3), gives(4, 1, 3), gives(5, 1, 3)), [][]api.Call{gets(4), gets(3)}},
	} {
		for first := range 16 {
			for second := range 16 {
				for third := range 12 {
					follows(t, slices.Concat(times(first, 0), times(second, 1), times(third, 0), times(30, -1)), x.l, x.scripts)
				}
			}
		}
	}
}

// freely: whoever asks at one time, each is answered as Fate says; by turns first, since freely a ring that is not seen would never end
func TestManyFreely(t *testing.T) {
	r := trial.Row(7)
	for i := range 400 {
		l := rings(&r, r.One(2, 3, 5))
		if i%2 == 0 {
			l = r.Recipes(r.One(2, 5, 20))
		}
		scripts := make([][]api.Call, r.One(2, 3, 4))
		for thread := range scripts {
			scripts[thread] = gets(r.Below(len(l)), r.Below(len(l)), r.Below(len(l)+1))
		}
		follows(t, nil, l, scripts)
		var free *turn.World
		p := played{trial.Told{Answers: trial.Calls(free, scripts, does(made(t, free, l)))}, l, scripts}
		for _, err := range []error{p.neverStuck(), p.fate(), p.toldTruly()} {
			if err != nil {
				t.Fatalf("%v of %v: %v: %v", scripts, l, err, p.Answers)
			}
		}
	}
}
