package shell

import (
	"slices"

	"butler/api"
	"butler/box"
	"butler/cell"
	"butler/chain"
	"butler/counter"
	"butler/gate"
	"butler/history"
	"butler/house"
	"butler/latch"
	"butler/lock"
	"butler/once"
	"butler/slots"
	"butler/stack"
	"butler/turn"
)

// played is a Play that was not refused.
type played struct {
	scripts [][]api.Call // as they were then
	answers [][]api.Answer
	trace   []api.Step
}

// player is a layer's Play, with all chosen that it is handed beside a world and scripts.
type player func(w *turn.World, scripts [][]api.Call) ([][]api.Answer, api.Errno)

// with is a Play that is handed this, too.
func with[T any](x T, play func(w *turn.World, x T, scripts [][]api.Call) ([][]api.Answer, api.Errno)) player {
	return func(w *turn.World, scripts [][]api.Call) ([][]api.Answer, api.Errno) {
		return play(w, x, scripts)
	}
}

func (s *state) playHouse([]int) []string     { return s.play(with(s.recipes, house.Play)) }
func (s *state) playBox([]int) []string       { return s.play(with(s.recipes, box.Play)) }
func (s *state) playGate([]int) []string      { return s.play(gate.Play) }
func (s *state) playLock([]int) []string      { return s.play(lock.Play) }
func (s *state) playLatch(n []int) []string   { return s.play(with(n[0], latch.Play)) }
func (s *state) playOnce(n []int) []string    { return s.play(with(n[0], once.Play)) }
func (s *state) playSlots(n []int) []string   { return s.play(with(n[0], slots.Play)) }
func (s *state) playStack(n []int) []string   { return s.play(with(n[0], stack.Play)) }
func (s *state) playCounter(n []int) []string { return s.play(with(n[0], counter.Play)) }
func (s *state) playChain(n []int) []string   { return s.play(with(n[0], chain.Play)) }
func (s *state) playCell(n []int) []string    { return s.play(with(n, cell.Play)) }

// play keeps of a Play what may be asked of it later. It keeps a list of scripts of its own, since the last one in the state's list may grow.
func (s *state) play(play player) []string {
	w := turn.New(s.schedule)
	answers, e := play(w, s.scripts)
	if e != api.OK {
		return failed(e)
	}
	s.last = &played{scripts: slices.Clone(s.scripts), answers: answers, trace: w.Trace()}
	told := []string{"ok"}
	if w.Stuck() {
		told = []string{"stuck"}
	}
	for _, l := range answers {
		told = append(told, listed(l))
	}
	return told
}

func (s *state) trace([]int) []string {
	if s.last == nil {
		return failed(api.ErrShell)
	}
	if len(s.last.trace) == 0 {
		return []string{none}
	}
	var told []string
	for _, x := range s.last.trace {
		told = append(told, row(x.Thread, x.Cell, x.Op, x.Old, x.New))
	}
	return told
}

func (s *state) linear(n []int) []string {
	if s.last == nil {
		return failed(api.ErrShell)
	}
	l, e := history.Of(s.last.scripts, s.last.answers, s.last.trace)
	if e != api.OK {
		return failed(e)
	}
	so, e := history.Linear(n[0], n[1], l)
	switch {
	case e != api.OK:
		return failed(e)
	case so:
		return []string{"yes"}
	}
	return []string{"no"}
}
