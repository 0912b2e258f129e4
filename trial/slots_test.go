package trial_test

import (
	"slices"
	"testing"

	"butler/api"
	"butler/trial"
)

func TestNewer(t *testing.T) {
	for _, x := range [][3]int{{0, 0, 1 << 32}, {5, 7, 1<<32 + 7}, {3<<32 + 5, 0, 4 << 32}, {(1<<30-1)<<32 + 5, 7, 7}, {(1<<30 - 2) << 32, 1, (1<<30-1)<<32 + 1}} {
		if got := trial.Newer(x[0], x[1]); got != x[2] {
			t.Errorf("%d, %d: %d", x[0], x[1], got)
		}
	}
}

func TestSlotsCells(t *testing.T) {
	for _, x := range []struct {
		many, version int
		want          []int
	}{
		{0, 0, []int{0}}, {1, 0, []int{1, 0, 0}}, {3, 0, []int{1, 2, 0, 3, 0, 0, 0}}, {0, 2, []int{2 << 32}}, {2, 3, []int{3<<32 + 1, 2, 0, 0, 0}},
	} {
		s := trial.Slots{At: 4, Many: x.many}
		if got := s.Cells(x.version); !slices.Equal(got, x.want) {
			t.Errorf("%d of the version %d: %v", x.many, x.version, got)
		}
	}
	s := trial.Slots{At: 4, Many: 3}
	if got := []int{s.Head(), s.Next(0), s.Used(0), s.Next(2), s.Used(2)}; !slices.Equal(got, []int{4, 5, 6, 9, 10}) {
		t.Error(got)
	}
}

// slotsBehind is a game of two slots behind another cell: Op 1 Take, 2 Give(A).
func slotsBehind(scripts ...[]api.Call) trial.Game {
	s := trial.Slots{At: 1, Many: 2}
	return trial.Game{Cells: append([]int{77}, s.Cells(0)...), Scripts: scripts, Call: func(thread int, c api.Call) trial.Next {
		if c.Op == 1 {
			return s.Take(func(i int, e api.Errno) trial.Next { return trial.Over(e, i) })
		}
		return s.Give(c.A, func(e api.Errno) trial.Next { return trial.Over(e, 0) })
	}}
}

// by hand: one thread, all answers
func TestSlotsAlone(t *testing.T) {
	g := slotsBehind([]api.Call{{Op: 1}, {Op: 1}, {Op: 1}, {Op: 2, A: 0}, {Op: 2, A: 0}, {Op: 2, A: 2}, {Op: 2, A: -1}})
	told := g.Play(nil)
	want := []api.Answer{{}, {Value: 1}, {Code: api.ErrSlotsFull}, {}, {Code: api.ErrSlotsFree}, {Code: api.ErrArg}, {Code: api.ErrArg}}
	if !slices.Equal(told.Answers[0], want) {
		t.Error(told.Answers)
	}
	const v = 1 << 32
	var steps []api.Step
	for _, x := range [][4]int{
		{1, api.StepLoad, 1, 1}, {2, api.StepLoad, 2, 2}, {1, api.StepCas, 1, v + 2}, {3, api.StepStore, 0, 1},
		{1, api.StepLoad, v + 2, v + 2}, {4, api.StepLoad, 0, 0}, {1, api.StepCas, v + 2, 2 * v}, {5, api.StepStore, 0, 1},
		{1, api.StepLoad, 2 * v, 2 * v},
		{3, api.StepCas, 1, 0}, {1, api.StepLoad, 2 * v, 2 * v}, {2, api.StepStore, 2, 0}, {1, api.StepCas, 2 * v, 3*v + 1},
		{3, api.StepCas, 0, 0},
	} {
		steps = append(steps, trial.Step(0, x[0], x[1], x[2], x[3]))
	}
	if got := trial.Bare(told.Trace); !slices.Equal(got, steps) {
		t.Error(got)
	}
	if got := told.Stands(g.Cells); !slices.Equal(got, []int{77, 3*v + 1, 0, 0, 0, 1}) || !slices.Equal(g.Cells, []int{77, 1, 2, 0, 0, 0}) {
		t.Error(got, g.Cells)
	}
}

// who is too late tries again, a Give as a Take
func TestSlotsTogether(t *testing.T) {
	const v = 1 << 32
	take, gives := []api.Call{{Op: 1}}, []api.Call{{Op: 1}, {Op: 2}}
	for i, x := range []struct {
		schedule []int
		second   []api.Call
		answers  [][]api.Answer
		stands   []int
	}{
		{[]int{0, 0, 1, 1, 1, 1}, take, [][]api.Answer{trial.Values(1), trial.Values(0)}, []int{77, 2 * v, 2, 1, 0, 1}},
		{[]int{1, 1, 1, 1, 1, 1, 1, 0, 0, 0, 0}, gives, [][]api.Answer{trial.Values(1), trial.Values(0, 0)}, []int{77, 3*v + 1, 0, 0, 0, 1}},
	} {
		g := slotsBehind(take, x.second)
		told := g.Play(x.schedule)
		if got := told.Stands(g.Cells); told.Count(trial.Fails) != 1 || !trial.Same(told.Answers, x.answers) || !slices.Equal(got, x.stands) {
			t.Error(i, told, got)
		}
	}
}
