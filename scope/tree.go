package scope

import (
	"slices"
	"sync/atomic"

	"butler/api"
	"butler/cell"
	"butler/turn"
)

// tree is what all scopes of one tree share.
type tree struct {
	world   *turn.World
	recipes []api.Recipe
	keys    [api.MaxLevels]int // of each Level: how many keys there are
	places  []int              // of each key: which one of its Level's it is
	many    *cell.Cell         // how many scopes there are, or were asked for
	ready   [api.MaxScopes]*cell.Cell
	scopes  [api.MaxScopes]atomic.Pointer[Scope] // each is there ahead of the step that tells its number
}

// newTree is one without a scope. Its recipes are right, and it keeps copies of its own.
func newTree(w *turn.World, l []api.Recipe) *tree {
	r := &tree{world: w}
	for _, x := range l {
		x.Needs = slices.Clone(x.Needs)
		r.recipes = append(r.recipes, x)
		r.places = append(r.places, r.keys[x.Level])
		r.keys[x.Level]++
	}
	r.many = cell.New(w, 1)
	for n := range r.ready {
		first := 0
		if n == 0 {
			first = 1 // the root is there from the beginning on
		}
		r.ready[n] = cell.New(w, first)
	}
	return r
}

func (r *tree) has(key int) bool { return key >= 0 && key < len(r.recipes) }

func (r *tree) sameLevel(a, b int) bool { return r.recipes[a].Level == r.recipes[b].Level }
