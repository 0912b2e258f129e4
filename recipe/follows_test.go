package recipe_test

import (
	"slices"
	"testing"

	"butler/api"
	"butler/recipe"
	"butler/trial"
)

// reached are the keys that a key reaches, gone after one by one.
func reached(l []api.Recipe, key int) []int {
	out := slices.Clone(l[key].Needs)
	for i := 0; i < len(out); i++ {
		for _, need := range l[out[i]].Needs {
			if !slices.Contains(out, need) {
				out = append(out, need)
			}
		}
	}
	return out
}

func canBe(l []api.Recipe, key int) bool {
	can, _ := recipe.Fate(l, key)
	return can
}

// P11.6 (each once, behind all that it reaches)
func TestToldOnce(t *testing.T) {
	r := trial.Row(4)
	many := 0
	for range 3000 {
		l := r.Recipes(12)
		told := recipe.Order(l, asked(&r, len(l)))
		for i, key := range told {
			if slices.Contains(told[:i], key) || !canBe(l, key) {
				t.Fatalf("%v of %v: %d is told twice, or cannot be built", told, l, key)
			}
			for _, k := range reached(l, key) {
				if !slices.Contains(told[:i], k) {
					t.Fatalf("%v of %v: %d is not told ahead of %d", told, l, k, key)
				}
				many++
			}
		}
	}
	if many < 1000 {
		t.Errorf("too tame: %d keys were reached by such as were told", many)
	}
}

// P11.6 (all of them)
func TestToldAll(t *testing.T) {
	r := trial.Row(5)
	can, not := 0, 0
	for range 3000 {
		l := r.Recipes(12)
		keys := asked(&r, len(l))
		told := recipe.Order(l, keys)
		for _, key := range keys {
			if key < 0 || key >= len(l) || !canBe(l, key) {
				not++
				continue
			}
			can++
			for _, k := range append(reached(l, key), key) {
				if !slices.Contains(told, k) {
					t.Fatalf("%v asked of %v: %v are told, %d is not", keys, l, told, k)
				}
			}
		}
	}
	if can < 1000 || not < 1000 {
		t.Errorf("too tame: %d keys can be built, %d cannot", can, not)
	}
}

// P11.6 (the same set in any order), of keys that cannot be built, too
func TestToldSame(t *testing.T) {
	r := trial.Row(6)
	other, broken := 0, 0
	for range 3000 {
		l := r.Recipes(12)
		keys := asked(&r, len(l))
		told := recipe.Order(l, keys)
		for range len(keys) {
			keys = append(keys[1:], keys[0])
			for range 2 {
				slices.Reverse(keys)
				again := recipe.Order(l, keys)
				other += trial.Number(!slices.Equal(told, again))
				if !slices.Equal(slices.Sorted(slices.Values(told)), slices.Sorted(slices.Values(again))) {
					t.Fatalf("%v asked of %v, in this order and another: %v and %v", keys, l, again, told)
				}
			}
		}
		broken += trial.Number(slices.ContainsFunc(keys, func(key int) bool { return key >= 0 && key < len(l) && !canBe(l, key) }))
	}
	if other < 1000 || broken < 500 {
		t.Errorf("too tame: %d in another order, %d with keys that cannot be built", other, broken)
	}
}

// P11.7 (who cannot be built, and who can)
func TestWhoCan(t *testing.T) {
	r := trial.Row(7)
	in, acts, can := 0, 0, 0
	for range 3000 {
		l := r.Recipes(12)
		rings := recipe.Rings(l)
		for key := range l {
			counting := append(reached(l, key), key)
			ring := slices.ContainsFunc(counting, func(k int) bool { return slices.Contains(rings, k) })
			act := slices.ContainsFunc(counting, func(k int) bool { return l[k].Act != 0 })
			if canBe(l, key) == (ring || act) {
				t.Fatalf("key %d of %v: can be built: %v; ring: %v; act: %v", key, l, !ring && !act, ring, act)
			}
			in, acts, can = in+trial.Number(ring), acts+trial.Number(act && !ring), can+trial.Number(!ring && !act)
		}
	}
	if in < 1000 || acts < 1000 || can < 1000 {
		t.Errorf("too tame: %d keys for a ring's sake, %d for an Act's, %d that can be built", in, acts, can)
	}
}

// P11.7 (one Level in a ring): whoever is lifted out of it alone makes recipes that are not right
func TestRingLevel(t *testing.T) {
	r := trial.Row(8)
	lifted := 0
	for range 3000 {
		l := r.Recipes(12)
		for _, key := range recipe.Rings(l) {
			mine := reached(l, key)
			for _, k := range mine {
				if slices.Contains(reached(l, k), key) && l[k].Level != l[key].Level {
					t.Fatalf("%v: keys %d and %d are in one ring", l, key, k)
				}
			}
			alone := !slices.ContainsFunc(mine, func(k int) bool { return k != key && slices.Contains(reached(l, k), key) })
			for level := range api.MaxLevels {
				if !alone && level != l[key].Level {
					lifted++
					judged(t, with(l, key, func(x *api.Recipe) { x.Level = level }), api.ErrRecipe)
				}
			}
		}
	}
	if lifted < 1000 {
		t.Errorf("too tame: %d were lifted", lifted)
	}
}

// P11.8: what a key does not reach may be anything, Levels and Ends of all may be others, and keys may have other numbers
func TestHangsOnReached(t *testing.T) {
	r := trial.Row(9)
	gave, changed := 0, 0
	for range 3000 {
		l, others := r.Recipes(12), r.Recipes(12)
		key := r.Below(len(l))
		can, gives := recipe.Fate(l, key)
		mine := append(reached(l, key), key)
		for i := range l {
			l[i].Level, l[i].End = 3, r.Below(3)
			if slices.Contains(mine, i) {
				continue
			}
			changed++
			x := others[r.Below(len(others))]
			x.Level = 3
			x.Needs = slices.DeleteFunc(slices.Clone(x.Needs), func(need int) bool { return need >= len(l) })
			l[i] = x
		}
		turned, at := renumbered(&r, l)
		for _, x := range []struct {
			l   []api.Recipe
			key int
		}{{l, key}, {append(l, make([]api.Recipe, 5)...), key}, {turned, at[key]}} {
			if c, g := recipe.Fate(x.l, x.key); c != can || g != gives {
				t.Fatalf("key %d of %v: %v %d; it was %v %d", x.key, x.l, c, g, can, gives)
			}
		}
		gave += trial.Number(can && len(mine) > 1)
	}
	if gave < 500 || changed < 5000 {
		t.Errorf("too tame: %d gave something with their needs, %d others were changed", gave, changed)
	}
}

// renumbered are the same recipes under other numbers, and which these are.
func renumbered(r *trial.Row, l []api.Recipe) (out []api.Recipe, at []int) {
	at = forwards(len(l))
	for i := range at {
		j := r.Below(i + 1)
		at[i], at[j] = at[j], at[i]
	}
	out = make([]api.Recipe, len(l))
	for key, x := range l {
		x.Needs = slices.Clone(x.Needs)
		for i, need := range x.Needs {
			x.Needs[i] = at[need]
		}
		out[at[key]] = x
	}
	return out, at
}
