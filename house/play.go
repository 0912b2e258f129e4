package house

import (
	"butler/api"
	"butler/play"
	"butler/turn"
)

// The calls of a script.
const (
	opAsk   = 1
	opOpen  = 2
	opClose = 3
)

// Play lets threads ask, open and close; of no world freely.
func Play(w *turn.World, l []api.Recipe, scripts [][]api.Call) ([][]api.Answer, api.Errno) {
	if e := check(w, scripts); e != api.OK {
		return nil, e
	}
	h, e := New(w, l)
	if e != api.OK {
		return nil, e
	}
	return play.Run(w, scripts, h.call), api.OK
}

// check is what every Play refuses; but this one takes no world, too.
func check(w *turn.World, scripts [][]api.Call) api.Errno {
	if w == nil {
		return play.CheckScripts(scripts)
	}
	return play.Check(w, scripts)
}

// call carries out a call of a script.
func (h *House) call(t *turn.Thread, c api.Call) api.Answer {
	switch c.Op {
	case opAsk:
		return h.Ask(t, c.A, c.B)
	case opOpen:
		return h.Open(t, c.A)
	case opClose:
		return h.Close(t, c.A)
	}
	return api.Answer{Code: api.ErrArg}
}
