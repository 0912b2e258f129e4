package trial_test

import (
	"reflect"
	"slices"
	"testing"

	"butler/api"
	"butler/recipe"
	"butler/trial"
)

// the recipes and calls are as before, behind one key more and an Ask of it, which can be built; what was handed in stays as it was
func TestTogether(t *testing.T) {
	for _, l := range [][]api.Recipe{tree(), {{}}, slices.Repeat(tree(), 11), make([]api.Recipe, 59)} {
		calls := [][]api.Call{{open(0), ask(1, 2)}, nil, {shut(0)}}
		given, roomy := trial.WholeRecipes(trial.RoomyRecipes(l)), trial.RoomyRecipes(l)
		slow, late := trial.Together(roomy, trial.Roomy([]api.Call{shut(7)}, calls...))
		if !reflect.DeepEqual(trial.WholeRecipes(roomy), given) || !reflect.DeepEqual(calls, [][]api.Call{{open(0), ask(1, 2)}, nil, {shut(0)}}) {
			t.Error("it changed what it was handed")
		}
		if len(slow) != 60 || recipe.Right(slow) != api.OK || len(late) != len(calls) {
			t.Fatal(slow, late)
		}
		for key := range l {
			if slow[key].Value != l[key].Value || !slices.Equal(slow[key].Needs, l[key].Needs) {
				t.Error(key, slow[key])
			}
		}
		for thread := range calls {
			if first := late[thread][0]; first != ask(0, len(l)) || !slices.Equal(late[thread][1:], calls[thread]) {
				t.Error(late[thread])
			}
		}
		if can, v := recipe.Fate(slow, len(l)); !can || v != 0 || len(recipe.Order(slow, []int{len(l)})) != 60-len(l) {
			t.Error(can, v)
		}
	}
}
