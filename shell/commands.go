package shell

import (
	"strconv"

	"butler/api"
	"butler/recipe"
)

// command is what a line may be: behind its words stand so many numbers.
type command struct {
	least, most int
	does        func(s *state, n []int) []string
}

// How many numbers: a call has an Op and up to three beside it; no line has more than a text has bytes.
const (
	callNumbers = 4
	anyNumbers  = api.MaxLine
)

// commands are all of them, by their words.
func commands() map[string]command {
	return map[string]command{
		"key":          {4, anyNumbers, (*state).key},
		"thread":       {0, 0, (*state).thread},
		"call":         {1, callNumbers, (*state).call},
		"turns":        {0, anyNumbers, (*state).turns},
		"clear":        {0, 0, (*state).clear},
		"rings":        {0, 0, (*state).rings},
		"fate":         {1, 1, (*state).fate},
		"order":        {0, anyNumbers, (*state).order},
		"play house":   {0, 0, (*state).playHouse},
		"play box":     {0, 0, (*state).playBox},
		"play gate":    {0, 0, (*state).playGate},
		"play lock":    {0, 0, (*state).playLock},
		"play latch":   {1, 1, (*state).playLatch},
		"play once":    {1, 1, (*state).playOnce},
		"play slots":   {1, 1, (*state).playSlots},
		"play stack":   {1, 1, (*state).playStack},
		"play counter": {1, 1, (*state).playCounter},
		"play chain":   {1, 1, (*state).playChain},
		"play cell":    {0, anyNumbers, (*state).playCell},
		"trace":        {0, 0, (*state).trace},
		"linear":       {2, 2, (*state).linear},
	}
}

func (c command) takes(many int) bool { return c.least <= many && many <= c.most }

func (s *state) key(n []int) []string {
	s.recipes = append(s.recipes, api.Recipe{Level: n[0], Act: n[1], Value: n[2], End: n[3], Needs: n[4:]})
	return []string{"ok"}
}

func (s *state) thread([]int) []string {
	s.scripts = append(s.scripts, nil)
	return []string{"ok"}
}

func (s *state) call(n []int) []string {
	if len(s.scripts) == 0 {
		return failed(api.ErrShell)
	}
	var x [callNumbers]int // what is not there is 0
	copy(x[:], n)
	last := &s.scripts[len(s.scripts)-1]
	*last = append(*last, api.Call{Op: x[0], A: x[1], B: x[2], C: x[3]})
	return []string{"ok"}
}

func (s *state) turns(n []int) []string {
	s.schedule = append(s.schedule, n...)
	return []string{"ok"}
}

func (s *state) clear([]int) []string {
	*s = state{}
	return []string{"ok"}
}

func (s *state) rings([]int) []string { return []string{row(recipe.Rings(s.recipes)...)} }

func (s *state) fate(n []int) []string {
	can, gives := recipe.Fate(s.recipes, n[0])
	if !can {
		return []string{"no"}
	}
	return []string{"yes " + strconv.Itoa(gives)}
}

func (s *state) order(n []int) []string { return []string{row(recipe.Order(s.recipes, n)...)} }
