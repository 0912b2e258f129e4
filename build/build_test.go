package build_test

import (
	"slices"
	"testing"

	"butler/api"
	"butler/build"
)

// asked is what a build asked for, one behind the other: each need once for a ring, and, negated and less 1, once to get it.
type asked []int

func TestKey(t *testing.T) {
	gave := map[int]api.Answer{
		0: {Value: 5}, 1: {Value: 1000002}, 2: {Code: api.ErrOnceFail, Value: 9}, 3: {Code: api.ErrStuck}, 4: {Code: api.ErrOnceAgain}, 5: {Code: api.ErrBoxRing, Value: 0},
	}
	const rings = 7 // a need that closes a ring
	for i, x := range []struct {
		r    api.Recipe
		want api.Answer
		asks asked
	}{
		{api.Recipe{Value: 7}, api.Answer{Value: 7}, nil},
		{api.Recipe{Value: -7}, api.Answer{Value: 999996}, nil},
		{api.Recipe{Value: -7, Act: 1}, api.Answer{Code: api.ErrOnceFail, Value: -7}, nil},
		{api.Recipe{Value: 0, Act: 2}, api.Answer{Code: api.ErrOncePanic, Value: 0}, nil},
		{api.Recipe{Value: 7, Needs: []int{0, 0}, Level: 3, End: 2}, api.Answer{Value: 17}, asked{0, -1, 0, -1}},
		{api.Recipe{Value: 2, Needs: []int{1, 0}}, api.Answer{Value: 6}, asked{1, -2, 0, -1}},
		{api.Recipe{Value: 2, Needs: []int{1, 0}, Act: 2}, api.Answer{Code: api.ErrOncePanic, Value: 2}, asked{1, -2, 0, -1}},
		{api.Recipe{Act: 2, Needs: []int{0, rings, 1}}, api.Answer{Code: api.ErrBoxRing, Value: rings}, asked{0, -1, rings}},
		{api.Recipe{Act: 1, Needs: []int{2, 0}}, api.Answer{Code: api.ErrBoxNeed, Value: 2}, asked{2, -3}},
		{api.Recipe{Needs: []int{0, 3, 0}}, api.Answer{Code: api.ErrStuck}, asked{0, -1, 3, -4}},
		{api.Recipe{Needs: []int{4}}, api.Answer{Code: api.ErrBoxNeed, Value: 4}, asked{4, -5}},
		{api.Recipe{Needs: []int{5, rings}}, api.Answer{Code: api.ErrBoxNeed, Value: 5}, asked{5, -6}},
	} {
		var asks asked
		got := build.Key(x.r, func(need int) bool {
			asks = append(asks, need)
			return need == rings
		}, func(need int) api.Answer {
			asks = append(asks, -need-1)
			return gave[need]
		})
		if got != x.want || !slices.Equal(asks, x.asks) {
			t.Errorf("%d: %v, %v", i, got, asks)
		}
	}
}
