package scope

import (
	"butler/api"
	"butler/play"
	"butler/turn"
)

// The calls of a script.
const (
	opAsk   = 1
	opOpen  = 2
	opClose = 3
)

// Play lets threads ask, open and close.
func Play(w *turn.World, l []api.Recipe, scripts [][]api.Call) ([][]api.Answer, api.Errno) {
	if e := play.Check(w, scripts); e != api.OK {
		return nil, e
	}
	root, e := New(w, l)
	if e != api.OK {
		return nil, e
	}
	return play.Run(w, scripts, root.call), api.OK
}

// call carries out a call of a script. An Op that there is not is told ahead of looking for the scope, which is a step.
func (s *Scope) call(t *turn.Thread, c api.Call) api.Answer {
	if c.Op < opAsk || c.Op > opClose {
		return api.Answer{Code: api.ErrArg}
	}
	named, e := s.At(t, c.A)
	if e != api.OK {
		return api.Answer{Code: e}
	}
	return named.act(c.Op)(t, c.B)
}

// act is what a call of a script does with the scope that it names, and with its B.
func (s *Scope) act(op int) func(t *turn.Thread, key int) api.Answer {
	switch op {
	case opOpen:
		return s.opens
	case opClose:
		return s.closes
	}
	return s.Ask
}

func (s *Scope) opens(t *turn.Thread, _ int) api.Answer {
	kid, e := s.Open(t)
	if e != api.OK {
		return api.Answer{Code: e}
	}
	return api.Answer{Value: kid.Number()}
}

func (s *Scope) closes(t *turn.Thread, _ int) api.Answer { return s.Close(t) }
