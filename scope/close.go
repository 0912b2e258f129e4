package scope

import (
	"butler/api"
	"butler/turn"
)

// The Ends of recipes.
const (
	endFails  = 1
	endPanics = 2
)

// Close closes it, all within it first, and waits till that is done.
func (s *Scope) Close(t *turn.Thread) api.Answer {
	first, e := s.gate.Shut(t)
	switch {
	case e != api.OK:
		return api.Answer{Code: e}
	case !first:
		return s.closed(t)
	}
	s.closeKids(t)
	came := s.closeKeys(t)
	s.result.Store(t, came.Value) // ahead of end, since who finds that it is closed reads the result at once
	s.end.Store(t, 1+int(came.Code))
	return came
}

// closed waits till who came first has closed it, and is what that came to.
func (s *Scope) closed(t *turn.Thread) api.Answer {
	for {
		if end := s.end.Load(t); end != 0 {
			return api.Answer{Code: api.Errno(end - 1), Value: s.result.Load(t)}
		}
		if !t.Await(s.end.Id()) {
			return api.Answer{Code: api.ErrStuck}
		}
	}
}

// closeKids closes its kids. What became of one is told to who closes that one alone; but whoever closes it, that is over then.
func (s *Scope) closeKids(t *turn.Thread) {
	for {
		n, e := s.kids.Pop(t)
		if e != api.OK {
			return
		}
		s.tree.scopes[n].Load().Close(t)
	}
}

// closeKeys closes what was built, the last one first, and is what the first one came to that did not end well.
func (s *Scope) closeKeys(t *turn.Thread) api.Answer {
	came := api.Answer{}
	for {
		key, e := s.done.Pop(t)
		if e != api.OK {
			return came
		}
		t.Note(api.StepClose, key, s.number)
		if x := s.tree.ends(key); came.Code == api.OK {
			came = x
		}
	}
}

// ends is what closing a key comes to; also if that panics, or all that is still to be closed would stay open.
func (r *tree) ends(key int) (came api.Answer) {
	defer func() {
		if recover() != nil {
			came = api.Answer{Code: api.ErrOncePanic, Value: key}
		}
	}()
	switch r.recipes[key].End {
	case endFails:
		return api.Answer{Code: api.ErrOnceFail, Value: key}
	case endPanics:
		panic(key)
	}
	return api.Answer{}
}
