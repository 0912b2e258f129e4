package recipe_test

import (
	"math"
	"slices"
	"sync"
	"testing"

	"butler/api"
	"butler/recipe"
	"butler/trial"
)

// some are the chapter's examples.
func some() []api.Recipe {
	l := needing(nil, []int{0, 0}, []int{3}, []int{2, 0}, []int{1, 2}, nil)
	for key, v := range []int{5, 7, 1, 1, 1, -6} {
		l[key].Value = v
	}
	return l
}

// needing are recipes with those Needs, and nothing else.
func needing(needs ...[]int) []api.Recipe {
	l := make([]api.Recipe, len(needs))
	for key := range l {
		l[key].Needs = needs[key]
	}
	return l
}

// with are the recipes, one of them changed.
func with(l []api.Recipe, key int, change func(r *api.Recipe)) []api.Recipe {
	l = slices.Clone(l)
	change(&l[key])
	return l
}

func acting(l []api.Recipe, key, act int) []api.Recipe {
	return with(l, key, func(r *api.Recipe) { r.Act = act })
}

// ring are so many keys, of which each needs the next one.
func ring(many int) []api.Recipe {
	l := make([]api.Recipe, many)
	for key := range l {
		l[key].Needs = []int{(key + 1) % many}
	}
	return l
}

// forwards are the numbers below many.
func forwards(many int) []int {
	out := make([]int, many)
	for i := range out {
		out[i] = i
	}
	return out
}

func backwards(many int) []int {
	out := forwards(many)
	slices.Reverse(out)
	return out
}

// judged holds what Right tells against what it is to be; of recipes that may not be all other calls are to tell nothing.
func judged(t *testing.T, l []api.Recipe, want api.Errno) {
	t.Helper()
	if e := recipe.Right(l); e != want {
		t.Errorf("Right of %v: %d; it is to be %d", l, e, want)
	}
	if want == api.OK {
		return
	}
	if got := recipe.Rings(l); len(got) > 0 {
		t.Errorf("Rings of %v: %v", l, got)
	}
	for key := -1; key <= len(l); key++ {
		if can, gives := recipe.Fate(l, key); can || gives != 0 {
			t.Errorf("Fate of %d of %v: %v %d", key, l, can, gives)
		}
	}
	if got := recipe.Order(l, forwards(len(l))); len(got) > 0 {
		t.Errorf("Order of %v: %v", l, got)
	}
}

func rings(t *testing.T, l []api.Recipe, want ...int) {
	t.Helper()
	if got := recipe.Rings(l); !slices.Equal(got, want) {
		t.Errorf("Rings of %v: %v; they are to be %v", l, got, want)
	}
}

func builds(t *testing.T, l []api.Recipe, key, want int) {
	t.Helper()
	if can, gives := recipe.Fate(l, key); !can || gives != want {
		t.Errorf("Fate of %d of %v: %v %d; it is to give %d", key, l, can, gives, want)
	}
}

func never(t *testing.T, l []api.Recipe, keys ...int) {
	t.Helper()
	for _, key := range keys {
		if can, gives := recipe.Fate(l, key); can || gives != 0 {
			t.Errorf("Fate of %d of %v: %v %d; it cannot be built", key, l, can, gives)
		}
	}
}

func tells(t *testing.T, l []api.Recipe, keys []int, want ...int) {
	t.Helper()
	if got := recipe.Order(l, keys); !slices.Equal(got, want) {
		t.Errorf("Order of %v, of %v: %v; it is to be %v", keys, l, got, want)
	}
}

// P11.1

func TestRightExamples(t *testing.T) {
	judged(t, some(), api.OK)
	judged(t, nil, api.ErrRecipe)
	judged(t, []api.Recipe{}, api.ErrRecipe)
	for key := range some() {
		judged(t, with(some(), key, func(r *api.Recipe) { r.Needs = []int{6} }), api.ErrRecipe)
	}
	judged(t, with(some(), 0, func(r *api.Recipe) { r.Level = 1 }), api.ErrRecipe)
}

// what is at a limit is fine, what is past it is not
func TestRightEdges(t *testing.T) {
	for _, x := range []struct {
		r    api.Recipe
		want api.Errno
	}{
		{api.Recipe{}, api.OK},
		{api.Recipe{Level: 7}, api.OK}, {api.Recipe{Level: 8}, api.ErrRecipe}, {api.Recipe{Level: -1}, api.ErrRecipe},
		{api.Recipe{Level: math.MaxInt}, api.ErrRecipe}, {api.Recipe{Level: math.MinInt}, api.ErrRecipe},
		{api.Recipe{Act: 1}, api.OK}, {api.Recipe{Act: 2}, api.OK}, {api.Recipe{Act: 3}, api.ErrRecipe}, {api.Recipe{Act: -1}, api.ErrRecipe},
		{api.Recipe{Act: math.MaxInt}, api.ErrRecipe}, {api.Recipe{Act: math.MinInt}, api.ErrRecipe},
		{api.Recipe{End: 1}, api.OK}, {api.Recipe{End: 2}, api.OK}, {api.Recipe{End: 3}, api.ErrRecipe}, {api.Recipe{End: -1}, api.ErrRecipe},
		{api.Recipe{End: math.MaxInt}, api.ErrRecipe}, {api.Recipe{End: math.MinInt}, api.ErrRecipe},
		{api.Recipe{Value: 1000}, api.OK}, {api.Recipe{Value: -1000}, api.OK}, {api.Recipe{Value: 1001}, api.ErrRecipe}, {api.Recipe{Value: -1001}, api.ErrRecipe},
		{api.Recipe{Value: math.MaxInt}, api.ErrRecipe}, {api.Recipe{Value: math.MinInt}, api.ErrRecipe},
		{api.Recipe{Needs: make([]int, 20)}, api.OK}, {api.Recipe{Needs: make([]int, 21)}, api.ErrLong}, {api.Recipe{Needs: make([]int, 2000)}, api.ErrLong},
		{api.Recipe{Needs: []int{}}, api.OK}, {api.Recipe{Needs: []int{0, 0}}, api.OK},
		{api.Recipe{Needs: []int{3}}, api.ErrRecipe}, {api.Recipe{Needs: []int{-1}}, api.ErrRecipe}, {api.Recipe{Needs: []int{0, 0, 3}}, api.ErrRecipe}, {api.Recipe{Needs: []int{-1, 0}}, api.ErrRecipe},
		{api.Recipe{Needs: []int{math.MaxInt}}, api.ErrRecipe}, {api.Recipe{Needs: []int{math.MinInt}}, api.ErrRecipe},
	} {
		for key := range 3 {
			judged(t, with(make([]api.Recipe, 3), key, func(r *api.Recipe) { *r = x.r }), x.want)
		}
	}
	judged(t, make([]api.Recipe, 1), api.OK)
	judged(t, make([]api.Recipe, 100), api.OK)
	judged(t, make([]api.Recipe, 101), api.ErrLong)
	judged(t, make([]api.Recipe, 5000), api.ErrLong)
	judged(t, needing([]int{0}), api.OK)
	judged(t, needing([]int{1}), api.ErrRecipe)
	judged(t, ring(100), api.OK)
	judged(t, with(ring(100), 99, func(r *api.Recipe) { r.Needs = []int{100} }), api.ErrRecipe)
}

// a need may live on the same Level, and on one below, not on one above, wherever it stands
func TestRightLevels(t *testing.T) {
	for high := range api.MaxLevels {
		for low := range high + 1 {
			l := needing(nil, []int{0, 0}, nil, []int{2, 0})
			l[0].Level, l[1].Level, l[3].Level = low, high, high
			judged(t, l, api.OK)
			l = needing([]int{3}, nil, []int{1, 3, 3}, nil)
			l[0].Level, l[2].Level, l[3].Level = high, high, low
			judged(t, l, api.OK)
			if low < high {
				l[0].Level, l[2].Level, l[3].Level = low, high, high
				judged(t, l, api.ErrRecipe)
				l[0].Level, l[2].Level = high, low
				judged(t, l, api.ErrRecipe)
				l[2].Level = high
				judged(t, l, api.OK)
			}
		}
	}
	for key := range 5 {
		judged(t, with(ring(5), key, func(r *api.Recipe) { r.Level = 1 }), api.ErrRecipe)
	}
}

// of several errors what is too long comes first, wherever it stands
func TestRightSeveral(t *testing.T) {
	wrong := []api.Recipe{{Act: 3}, {End: 3}, {Value: 1001}, {Level: 8}, {Level: -1}, {Needs: []int{-1}}, {Needs: []int{1000}}, {Act: -1, End: -1, Value: -1001, Level: -1, Needs: []int{-1}}}
	for _, r := range wrong {
		for _, s := range wrong {
			judged(t, []api.Recipe{r, {}, s}, api.ErrRecipe)
		}
		long := api.Recipe{Needs: slices.Repeat([]int{-1}, 21)}
		judged(t, []api.Recipe{r, long}, api.ErrLong)
		judged(t, []api.Recipe{long, r}, api.ErrLong)
		judged(t, []api.Recipe{r, {}, long, {}}, api.ErrLong)
		judged(t, append(make([]api.Recipe, 100), r), api.ErrLong)
		judged(t, append([]api.Recipe{r}, make([]api.Recipe, 100)...), api.ErrLong)
		long.Act, long.Level = 3, -1
		judged(t, []api.Recipe{long}, api.ErrLong)
		judged(t, append(make([]api.Recipe, 100), long), api.ErrLong)
	}
}

// P11.2

func TestRings(t *testing.T) {
	rings(t, some(), 2, 3)
	rings(t, make([]api.Recipe, 1))
	rings(t, make([]api.Recipe, 100))
	rings(t, needing([]int{0}), 0)
	rings(t, needing([]int{1}, []int{1}, []int{1}), 1)
	rings(t, needing(nil, []int{0, 0, 0}, []int{1, 0, 1}))
	for _, many := range []int{1, 2, 3, 100} {
		rings(t, ring(many), forwards(many)...)
	}
	// two that share a key, and one that is reached from another, with keys between, ahead of and behind them
	rings(t, needing([]int{1}, []int{2, 3}, []int{0}, []int{1}, []int{3, 4}, []int{0}), 0, 1, 2, 3, 4)
	rings(t, needing([]int{1}, []int{2}, []int{3, 1}, []int{4}, []int{5}, []int{4, 6}, nil), 1, 2, 4, 5)
	rings(t, needing(nil, []int{0, 2}, []int{1, 0}, []int{2}, []int{5, 3}, []int{4}), 1, 2, 4, 5)
	// Acts count for nothing
	rings(t, acting(acting(ring(3), 0, 1), 2, 2), 0, 1, 2)
	// a key that has been reached stays so, whatever is reached behind it
	rings(t, needing([]int{1, 2, 3}, []int{3}, []int{3, 0}, []int{}), 0, 2)
}

// P11.3

func TestFate(t *testing.T) {
	builds(t, some(), 0, 5)
	builds(t, some(), 1, 17)
	builds(t, some(), 5, 999997)
	never(t, some(), 2, 3, 4, 6, 9, -1, math.MaxInt, math.MinInt)
	never(t, acting(some(), 0, 1), 0, 1)
	never(t, acting(some(), 0, 2), 0, 1)
	never(t, acting(some(), 1, 1), 1)
	builds(t, acting(some(), 1, 2), 0, 5)
	builds(t, []api.Recipe{{Value: -1000}}, 0, 999003)
	builds(t, []api.Recipe{{Value: 1000, Level: 7, End: 2}}, 0, 1000)
	for _, many := range []int{1, 2, 100} {
		never(t, ring(many), forwards(many)...)
	}
}

// a ring, and an Act that is not 0, count at the key, at a need, further below, ahead of a need that can be built and behind it
func TestFateBelow(t *testing.T) {
	for _, bad := range []api.Recipe{{Act: 1}, {Act: 2}, {Needs: []int{0}}, {Act: 1, Needs: []int{0}}} {
		l := []api.Recipe{bad, {Value: 1}, {Needs: []int{0, 1}}, {Needs: []int{1, 0}}, {Needs: []int{1, 2}}, {Needs: []int{3, 1}}, {Needs: []int{1, 1}, Value: 3}}
		never(t, l, 0, 2, 3, 4, 5)
		builds(t, l, 1, 1)
		builds(t, l, 6, 5)
	}
	never(t, acting(needing([]int{1}, []int{0}, []int{0}, nil), 3, 1), 0, 1, 2, 3)
}

// sums go round at 0 and at 1000003
func TestFateSums(t *testing.T) {
	twenty := func(key int) []int { return slices.Repeat([]int{key}, 20) }
	last := slices.Concat([]int{2, 2}, slices.Repeat([]int{1}, 7), slices.Repeat([]int{0}, 11))
	l := needing(nil, twenty(0), twenty(1), last)
	for key, v := range []int{1000, 1000, 1000, 1} {
		l[key].Value = v
	}
	builds(t, l, 0, 1000)
	builds(t, l, 1, 21000)
	builds(t, l, 2, 421000)
	for v, want := range map[int]int{1: 1000001, 2: 1000002, 3: 0, 4: 1, 1000: 997, -1000: 999000} {
		builds(t, with(l, 3, func(r *api.Recipe) { r.Value = v }), 3, want)
	}
	for key := range l {
		l[key].Value *= -1
	}
	builds(t, l, 0, 999003)
	builds(t, l, 1, 979003)
	builds(t, l, 2, 579003)
	for v, want := range map[int]int{-1: 2, -2: 1, -3: 0, -4: 1000002, 1000: 1003, 0: 3} {
		builds(t, with(l, 3, func(r *api.Recipe) { r.Value = v }), 3, want)
	}
	builds(t, []api.Recipe{{Value: 1}, {Value: -1, Needs: []int{0}}}, 1, 0)
	builds(t, []api.Recipe{{Value: -1}, {Value: 1, Needs: []int{0}}}, 1, 0)
}

// as many keys as may be, each of which needs the one below as often as may be: far more ways than could be gone one by one
func TestFateDeep(t *testing.T) {
	l := make([]api.Recipe, api.MaxKeys)
	want := 0
	for key := range l {
		l[key].Value = 1000 - key
		if key > 0 {
			l[key].Needs = slices.Repeat([]int{key - 1}, api.MaxNeeds)
		}
		want = (20*want + 1000 - key) % 1000003
		builds(t, l, key, modelOf(l[:key+1]).gives[key])
	}
	builds(t, l, api.MaxKeys-1, want)
	rings(t, l)
	tells(t, l, []int{api.MaxKeys - 1}, forwards(api.MaxKeys)...)
	never(t, acting(l, 0, 2), forwards(api.MaxKeys)...)
	tells(t, acting(l, 0, 2), forwards(api.MaxKeys))
	never(t, with(l, 0, func(r *api.Recipe) { r.Needs = []int{api.MaxKeys - 1} }), forwards(api.MaxKeys)...)
}

// P11.4

func TestOrderExamples(t *testing.T) {
	tells(t, some(), []int{4, 5, 1}, 0, 1, 5)
	tells(t, some(), []int{2, 0, 0, 9}, 0)
	tells(t, acting(some(), 0, 1), []int{1, 5}, 5)
}

func TestOrder(t *testing.T) {
	tells(t, some(), nil)
	tells(t, some(), []int{})
	tells(t, some(), []int{-1, 6, 9, math.MaxInt, math.MinInt})
	tells(t, some(), []int{-1, 1, 6, 5, math.MinInt}, 0, 1, 5)
	tells(t, some(), []int{1, 1, 0, 1}, 0, 1)
	tells(t, some(), []int{0, 1}, 0, 1)
	tells(t, some(), []int{4}, 0, 1)
	tells(t, some(), []int{3})
	tells(t, some(), []int{3, 2, 4, 3}, 0, 1)
	tells(t, some(), forwards(6), 0, 1, 5)
	tells(t, some(), backwards(6), 5, 0, 1)
	tells(t, []api.Recipe{{}}, []int{0}, 0)
	// needs in their order, each ahead of who needs it
	l := needing([]int{2, 1}, []int{3}, []int{4, 3}, nil, nil)
	tells(t, l, []int{0}, 4, 3, 2, 1, 0)
	tells(t, l, []int{3, 0}, 3, 4, 2, 1, 0)
	tells(t, l, []int{1, 4, 0}, 3, 1, 4, 2, 0)
	tells(t, l, forwards(5), 4, 3, 2, 1, 0)
	tells(t, l, backwards(5), 4, 3, 2, 1, 0)
	tells(t, make([]api.Recipe, 100), backwards(100), backwards(100)...)
	tells(t, slices.Repeat([]api.Recipe{{Level: 3}}, 100), forwards(100), forwards(100)...)
}

// behind a need that cannot be built no other is asked for; ahead of it they are, and stay told
func TestOrderStops(t *testing.T) {
	for _, bad := range []api.Recipe{{Act: 1}, {Act: 2}, {Needs: []int{0}}} {
		l := []api.Recipe{bad, {}, {Needs: []int{0, 1}}, {Needs: []int{1, 0}}, {Needs: []int{2, 1}}, {Needs: []int{1, 2, 6}}, {}}
		tells(t, l, []int{0})
		tells(t, l, []int{2})
		tells(t, l, []int{3}, 1)
		tells(t, l, []int{4})
		tells(t, l, []int{5}, 1)
		tells(t, l, []int{2, 3, 6}, 1, 6)
		tells(t, l, []int{6, 5}, 6, 1)
	}
	// the needs of a key whose Act is not 0 are all asked for
	for act := 1; act <= 2; act++ {
		l := acting(needing(nil, []int{3, 0}, []int{1}, nil, []int{1, 5}, nil), 1, act)
		tells(t, l, []int{1}, 3, 0)
		tells(t, l, []int{2}, 3, 0)
		tells(t, l, []int{0, 2}, 0, 3)
		tells(t, l, []int{4}, 3, 0)
	}
}

// the same need, more than once, is asked for once; and behind one that cannot be built not at all
func TestOrderTwice(t *testing.T) {
	tells(t, needing(nil, nil, []int{1, 1, 0, 1, 0}), []int{2, 2}, 1, 0, 2)
	tells(t, acting(needing(nil, nil, []int{1, 0, 0, 1}), 0, 1), []int{2}, 1)
}

// a ring is met from where it is asked for: what stands there ahead of the next one in it is told
func TestOrderRings(t *testing.T) {
	l := needing(nil, nil, []int{0, 3}, []int{1, 2}, []int{2}, []int{3}, nil)
	tells(t, l, []int{4}, 0, 1)
	tells(t, l, []int{5}, 1, 0)
	tells(t, l, []int{4, 5}, 0, 1)
	tells(t, l, []int{5, 4}, 1, 0)
	tells(t, l, []int{6, 3, 2}, 6, 1, 0)
	l = needing(nil, nil, []int{3, 0}, []int{1, 2}, []int{2}, []int{3}, nil)
	tells(t, l, []int{4, 5}, 1)
	tells(t, l, []int{5, 4}, 1)
	tells(t, needing([]int{0, 1}, nil), []int{0})
	tells(t, needing([]int{1, 0}, nil), []int{0}, 1)
	tells(t, ring(2), []int{0, 1})
	tells(t, ring(100), backwards(100))
	// a ring of which one has been left: it is not begun again by another one
	tells(t, needing([]int{1}, []int{2, 0}, []int{1, 3}, nil, []int{1, 3}), []int{0, 4, 2})
}

// P11.5

// roomy are recipes in lists with spare room, in which something stands, and handed are these lists as they are.
func roomy(l []api.Recipe) (out []api.Recipe, handed func() [][]int) {
	out = trial.Roomy(api.Recipe{Value: 77}, l...)
	for key, r := range l {
		out[key].Needs = trial.Roomy(-77, r.Needs...)
	}
	return out, func() [][]int {
		var rows [][]int
		for _, r := range out[:cap(out)] {
			rows = append(rows, []int{r.Level, r.Act, r.Value, r.End}, slices.Clone(r.Needs[:cap(r.Needs)]))
		}
		return rows
	}
}

func TestKeeps(t *testing.T) {
	same := func(a, b [][]int) bool { return slices.EqualFunc(a, b, slices.Equal[[]int]) }
	wrong := with(some(), 5, func(r *api.Recipe) { r.End = 3 })
	for _, l := range [][]api.Recipe{some(), acting(some(), 0, 1), wrong, ring(7)} {
		l, handed := roomy(l)
		before, keys := handed(), trial.Roomy(3, 4, 2, 9, 5, 1, 1)
		recipe.Right(l)
		recipe.Rings(l)
		recipe.Fate(l, 4)
		recipe.Order(l, keys)
		if !same(handed(), before) || !slices.Equal(keys[:8], []int{4, 2, 9, 5, 1, 1, 3, 3}) {
			t.Errorf("what was handed in is changed: %v, %v", l, keys[:cap(keys)])
		}
	}
}

// what is answered is nobody else's: it can be written over, and what was handed in, too
func TestAnswersNew(t *testing.T) {
	l, keys := some(), trial.Roomy(3, 5, 1)
	told, in := recipe.Order(l, keys), recipe.Rings(l)
	over := func(x []int) {
		x = x[:cap(x)]
		for i := range x {
			x[i] = -5
		}
	}
	over(keys)
	for key := range l {
		over(l[key].Needs)
		l[key].Act = 1
	}
	if !slices.Equal(told, []int{5, 0, 1}) || !slices.Equal(in, []int{2, 3}) {
		t.Errorf("what was answered is changed: %v, %v", told, in)
	}
	l, keys = some(), []int{5, 1}
	again, inAgain := recipe.Order(l, keys), recipe.Rings(l)
	over(told)
	over(in)
	if !slices.Equal(again, []int{5, 0, 1}) || !slices.Equal(inAgain, []int{2, 3}) || !slices.Equal(keys, []int{5, 1}) {
		t.Errorf("what was answered before is written over, and with it %v, %v or %v", again, inAgain, keys)
	}
	tells(t, some(), keys, 5, 0, 1)
	rings(t, some(), 2, 3)
}

// nothing is kept from call to call: many may ask at one time
func TestFreely(t *testing.T) {
	l := some()
	var all sync.WaitGroup
	for range 8 {
		all.Go(func() {
			for range 200 {
				judged(t, l, api.OK)
				rings(t, l, 2, 3)
				builds(t, l, 1, 17)
				tells(t, l, []int{4, 5, 1}, 0, 1, 5)
			}
		})
	}
	all.Wait()
}

// P11.1 to P11.4, against the chapter's words

// asked are keys to ask for, some of which there are not.
func asked(r *trial.Row, many int) []int {
	out := make([]int, r.Below(6))
	for i := range out {
		out[i] = r.One(r.Below(many), r.Below(many), r.Below(many+2)-1)
	}
	return out
}

func agrees(t *testing.T, r *trial.Row, l []api.Recipe) {
	t.Helper()
	m := modelOf(l)
	judged(t, l, api.OK)
	rings(t, l, m.rings()...)
	for key := range l {
		if m.can[key] {
			builds(t, l, key, m.gives[key])
		} else {
			never(t, l, key)
		}
		tells(t, l, []int{key}, m.order([]int{key})...)
	}
	never(t, l, -1, len(l))
	for range 4 {
		keys := asked(r, len(l))
		tells(t, l, keys, m.order(keys)...)
	}
	tells(t, l, forwards(len(l)), m.order(forwards(len(l)))...)
	tells(t, l, backwards(len(l)), m.order(backwards(len(l)))...)
}

func TestModel(t *testing.T) {
	r := trial.Row(1)
	for range 4000 {
		agrees(t, &r, r.Recipes(9))
	}
	for range 30 {
		agrees(t, &r, r.Recipes(api.MaxKeys))
	}
}

// all graphs of three keys, each need once or not at all, in both orders, with one Act that is not 0 or none
func TestModelAll(t *testing.T) {
	r := trial.Row(2)
	for graph := range 1 << 9 {
		needs := make([][]int, 3)
		for i := range 9 {
			if graph>>i&1 == 1 {
				needs[i/3] = append(needs[i/3], i%3)
			}
		}
		for range 2 {
			l := needing(needs...)
			for key := range l {
				l[key].Value = 100*key - 50
			}
			agrees(t, &r, l)
			for key := range l {
				agrees(t, &r, acting(l, key, 1+graph%2))
			}
			for _, n := range needs {
				slices.Reverse(n)
			}
		}
	}
}

// one fault in recipes that are right
func TestModelWrong(t *testing.T) {
	r := trial.Row(3)
	for range 3000 {
		l := r.Recipes(9)
		key := r.Below(len(l))
		wrong := with(l, key, func(x *api.Recipe) {
			switch r.Below(5) {
			case 0:
				x.Level = r.One(-1, 8, 1000, -1000)
			case 1:
				x.Act = r.One(-1, 3, 1000, -1000)
			case 2:
				x.End = r.One(-1, 3, 1000, -1000)
			case 3:
				x.Value = r.One(-1001, 1001, 1000000, -1000000)
			case 4:
				x.Needs = slices.Insert(slices.Clone(x.Needs[:min(19, len(x.Needs))]), r.Below(min(19, len(x.Needs))+1), r.One(-1, len(l), 1000, -1000))
			}
		})
		judged(t, wrong, api.ErrRecipe)
		judged(t, l, api.OK)
	}
}
