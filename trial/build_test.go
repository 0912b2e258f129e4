package trial_test

import (
	"reflect"
	"slices"
	"testing"

	"butler/api"
	"butler/recipe"
	"butler/trial"
)

// by hand: the key looks for a ring in the cell 10 and its need, and gets that from the cell of its number
func TestBuild(t *testing.T) {
	cells := []int{5, 1000002, -1, 0, 0, 0, 0, 0, 0, 0, 0, 0, 0, 1} // -1: it fails; a ring by 3
	for i, x := range []struct {
		r     api.Recipe
		want  api.Answer
		looks []int
	}{
		{api.Recipe{Value: 7}, api.Answer{Value: 7}, nil},
		{api.Recipe{Value: -7}, api.Answer{Value: 999996}, nil},
		{api.Recipe{Value: -7, Act: 1, Needs: []int{0}}, api.Answer{Code: api.ErrOnceFail, Value: -7}, []int{10, 0}},
		{api.Recipe{Value: 7, Act: 2}, api.Answer{Code: api.ErrOncePanic, Value: 7}, nil},
		{api.Recipe{Value: 7, Needs: []int{0, 1, 0}}, api.Answer{Value: 16}, []int{10, 0, 11, 1, 10, 0}},
		{api.Recipe{Act: 2, Needs: []int{0, 2, 1}}, api.Answer{Code: api.ErrBoxNeed, Value: 2}, []int{10, 0, 12, 2}},
		{api.Recipe{Act: 1, Needs: []int{0, 3, 1}}, api.Answer{Code: api.ErrBoxRing, Value: 3}, []int{10, 0, 13}},
	} {
		told := trial.Game{Cells: cells, Scripts: [][]api.Call{{{}}}, Call: func(int, api.Call) trial.Next {
			return trial.Build(x.r, func(need int, then func(ring bool) trial.Next) trial.Next {
				return trial.Load(10+need, func(v int) trial.Next { return then(v == 1) })
			}, func(need int, then func(x api.Answer) trial.Next) trial.Next {
				return trial.Load(need, func(v int) trial.Next {
					if v < 0 {
						return then(api.Answer{Code: api.ErrOnceFail, Value: v})
					}
					return then(api.Answer{Value: v})
				})
			}, func(x api.Answer) trial.Next { return trial.Over(x.Code, x.Value) })
		}}.Play(nil)
		var looks []int
		for _, s := range trial.Bare(told.Trace) {
			looks = append(looks, s.Cell)
		}
		if told.Answers[0][0] != x.want || !slices.Equal(looks, x.looks) {
			t.Errorf("%d: %v", i, told)
		}
	}
}

// a need that was stuck is told as it is
func TestBuildStuck(t *testing.T) {
	told := trial.Game{Scripts: [][]api.Call{{{}}}, Call: func(int, api.Call) trial.Next {
		return trial.Build(api.Recipe{Needs: []int{0, 0}}, func(need int, then func(ring bool) trial.Next) trial.Next { return then(false) },
			func(need int, then func(x api.Answer) trial.Next) trial.Next {
				return then(api.Answer{Code: api.ErrStuck})
			},
			func(x api.Answer) trial.Next { return trial.Over(x.Code, x.Value) })
	}}.Play(nil)
	if told.Answers[0][0] != (api.Answer{Code: api.ErrStuck}) {
		t.Error(told)
	}
}

func TestWrongRecipes(t *testing.T) {
	codes := map[api.Errno]int{}
	for i, x := range trial.WrongRecipes() {
		if got := recipe.Right(x.Recipes); got != x.Error || got == api.OK {
			t.Errorf("%d: error %d", i, got)
		}
		codes[x.Error]++
	}
	if len(codes) != 2 || min(codes[api.ErrRecipe], codes[api.ErrLong]) < 5 {
		t.Error(codes)
	}
}

func TestRecipesMemory(t *testing.T) {
	l := []api.Recipe{{Value: 3}, {Needs: []int{0, 0}, End: 1}}
	roomy := trial.RoomyRecipes(l)
	if len(roomy) != 2 || cap(roomy) == 2 || !slices.Equal(roomy[1].Needs, l[1].Needs) || cap(roomy[1].Needs) == 2 {
		t.Error(roomy)
	}
	before := trial.WholeRecipes(roomy)
	if !reflect.DeepEqual(trial.WholeRecipes(roomy), before) || len(before) != cap(roomy) {
		t.Error(before)
	}
	roomy[1].Needs[:3][2]++ // in its spare room alone
	if reflect.DeepEqual(trial.WholeRecipes(roomy), before) {
		t.Error("spare room is not seen")
	}
	needs := roomy[1].Needs
	trial.SpoilRecipes(roomy)
	if !slices.Equal(needs, []int{1, 1}) || roomy[0].Value == 3 || l[0].Value != 3 || !slices.Equal(l[1].Needs, []int{0, 0}) {
		t.Error(roomy, l)
	}
}
