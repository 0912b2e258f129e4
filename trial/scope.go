package trial

import (
	"slices"

	"butler/api"
)

// Where the cells of a tree of scopes are, in a game of one.
const (
	cellMany  = 0
	cellReady = 1                 // that of the root; behind it those of all other numbers
	cellRoot  = 1 + api.MaxScopes // the first of the root's own
)

// Scope is a scope of chapter 14 within a game: its number, its keys, and from which of the game's cells on its own ones are.
type Scope struct {
	Number, At int
	Keys       []int
}

// Root is the root of a tree of these recipes.
func Root(l []api.Recipe) Scope { return Scope{At: cellRoot, Keys: keysOn(0, l)} }

// keysOn are the keys of a Level.
func keysOn(level int, l []api.Recipe) []int {
	var out []int
	for key, r := range l {
		if r.Level == level {
			out = append(out, key)
		}
	}
	return out
}

// place tells the i of the scope's i-th key; -1: it is none of them.
func (s Scope) place(key int) int { return slices.Index(s.Keys, key) }

// Kept is the WORD and VALUE of one of its keys.
func (s Scope) Kept(key int) Kept { return Kept{At: s.At + 2*s.place(key)} }

// Chain is that of its keys, by their places.
func (s Scope) Chain() Chain { return Chain{At: s.At + 2*len(s.Keys), Many: len(s.Keys)} }

// Gate is its gate.
func (s Scope) Gate() Gate { return Gate{At: s.At + 3*len(s.Keys)} }

// Done is the stack DONE.
func (s Scope) Done() Stack { return Stack{At: s.At + 3*len(s.Keys) + 1, Many: len(s.Keys)} }

// Kids is the stack KIDS.
func (s Scope) Kids() Stack { return Stack{At: s.At + 7*len(s.Keys) + 3, Many: api.MaxScopes} }

// Result is the cell RESULT.
func (s Scope) Result() int { return s.At + 7*len(s.Keys) + 3 + 4*api.MaxScopes + 2 }

// End is the cell END.
func (s Scope) End() int { return s.Result() + 1 }

// Cells are what stands in its own cells at first.
func (s Scope) Cells() []int {
	return slices.Concat(make([]int, 2*len(s.Keys)), s.Chain().Cells(), []int{0}, s.Done().Cells(), s.Kids().Cells(), []int{0, 0})
}
