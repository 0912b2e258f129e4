package trial

import (
	"math"
	"slices"

	"butler/api"
)

// Recipes are some that are right, for 1 to so many keys: with rings and without, on few Levels or many, with Acts that fail or none.
func (r *Row) Recipes(most int) []api.Recipe {
	l := make([]api.Recipe, 1+r.Below(most))
	way, fails := r.Below(4), r.One(1, 4, 12)
	for key := range l {
		l[key] = api.Recipe{Needs: r.needs(way, key, len(l)), Level: r.One(0, 0, 0, 1, 2, api.MaxLevels-1), Value: r.value(), End: r.Below(3)}
		if r.Below(fails) == 1 {
			l[key].Act = r.One(1, 2)
		}
	}
	lift(l)
	return l
}

// FlatRecipes are likewise, mostly on few Levels: so most of them live in scopes that there are.
func (r *Row) FlatRecipes(most int) []api.Recipe {
	l := r.Recipes(most)
	if levels := r.One(1, 2, 2, 3, api.MaxLevels); levels < api.MaxLevels {
		for key := range l {
			l[key].Level = min(l[key].Level, levels-1)
		}
	}
	return l
}

// RingRecipes are such that every key is in a ring: so many on each of two Levels, each of which needs the next one of its Level, and some others, too.
func (r *Row) RingRecipes(many int) []api.Recipe {
	l := make([]api.Recipe, 2*many)
	for key := range l {
		from := key / many * many // its Level's first key
		l[key] = api.Recipe{Level: key / many, Value: key, Needs: []int{from + (key+1-from)%many}}
		for range r.One(0, 0, 1, 2) {
			l[key].Needs = slices.Insert(l[key].Needs, r.Below(len(l[key].Needs)+1), r.Below(from+many))
		}
	}
	return l
}

// GreatRecipes are at the limits: 100 keys, on one Level or on all, which need each other in a row, in a ring, each many others, or not.
func GreatRecipes() [][]api.Recipe {
	row, circle, levels, last := make([]api.Recipe, 100), make([]api.Recipe, 100), make([]api.Recipe, 100), make([]api.Recipe, 100)
	for key := range row {
		row[key] = api.Recipe{Value: 1000, Needs: []int{key + 1}, End: key % 3}
		circle[key] = api.Recipe{Value: -1000, Level: 1, Needs: []int{(key + 1) % 100}}
		last[key] = api.Recipe{Value: key, Level: 7, End: 2}
		levels[key].Level = key * api.MaxLevels / 100
		for need := max(0, key-api.MaxNeeds); need < key; need++ {
			levels[key].Needs = append(levels[key].Needs, need)
		}
	}
	row[99].Needs = nil
	return [][]api.Recipe{row, circle, levels, last}
}

// needs are some of a key: of those below it, of those above it, mostly of those below it, or of all.
func (r *Row) needs(way, key, many int) []int {
	var out []int
	for range r.One(0, 0, 1, 1, 1, 2, 2, 3, 4, r.Below(api.MaxNeeds+1)) {
		switch {
		case way == 0 || way == 2 && r.Below(8) > 0:
			if key > 0 {
				out = append(out, r.Below(key))
			}
		case way == 1:
			if key < many-1 {
				out = append(out, key+1+r.Below(many-1-key))
			}
		default:
			out = append(out, r.Below(many))
		}
	}
	return out
}

func (r *Row) value() int { return r.One(-1000, 1000, 0, r.Below(2001)-1000) }

// lift raises Levels that are below that of a need.
func lift(l []api.Recipe) {
	for range l {
		for key := range l {
			for _, need := range l[key].Needs {
				l[key].Level = max(l[key].Level, l[need].Level)
			}
		}
	}
}

// Wrong are recipes that may not be, and recipe.Right's error.
type Wrong struct {
	Recipes []api.Recipe
	Error   api.Errno
}

// WrongRecipes are such, each wrong in another way; some in several.
func WrongRecipes() []Wrong {
	needs := func(l ...int) api.Recipe { return api.Recipe{Needs: l} }
	hundred, tooMany := make([]api.Recipe, api.MaxKeys), needs(make([]int, api.MaxNeeds+1)...)
	var out []Wrong
	for _, l := range [][]api.Recipe{
		nil, {},
		{needs(9)}, {needs(1)}, {{}, needs(-1)}, {{}, needs(0, 0, math.MinInt)},
		{{Value: 1001}}, {{}, {Value: -1001}},
		{{Act: 3}}, {{Act: -1}}, {{End: 3}}, {{End: -1}},
		{{Level: api.MaxLevels}}, {{Level: -1}}, {{Level: 1}, needs(0)},
	} {
		out = append(out, Wrong{l, api.ErrRecipe})
	}
	for _, l := range [][]api.Recipe{
		append(hundred, api.Recipe{}), append(hundred, needs(9999)), make([]api.Recipe, 1000),
		{{}, tooMany}, {{Act: 3}, tooMany}, {needs(slices.Repeat([]int{77}, api.MaxNeeds+1)...)},
	} {
		out = append(out, Wrong{l, api.ErrLong})
	}
	return out
}

// RoomyRecipes are these with spare room, in their Needs, too, in which something stands.
func RoomyRecipes(l []api.Recipe) []api.Recipe {
	out := slices.Clone(l)
	for key := range out {
		out[key].Needs = Roomy(-77, l[key].Needs...)
	}
	return Roomy(api.Recipe{Needs: []int{-88}, Act: 99}, out...)
}

// WholeRecipes are these with their spare room, and that of their Needs, in new memory.
func WholeRecipes(l []api.Recipe) []api.Recipe {
	out := slices.Clone(l[:cap(l)])
	for key := range out {
		out[key].Needs = slices.Clone(out[key].Needs[:cap(out[key].Needs)])
	}
	return out
}

// SpoilRecipes writes recipes over, so that they say something else.
func SpoilRecipes(l []api.Recipe) {
	for key := range l {
		for i := range l[key].Needs {
			l[key].Needs[i] = key
		}
		l[key] = api.Recipe{Act: 2, Value: 999, Needs: []int{key}}
	}
}
