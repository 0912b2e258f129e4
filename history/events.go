package history

import "butler/api"

// Of makes events of scripts, their answers and the trace.
func Of(scripts [][]api.Call, answers [][]api.Answer, trace []api.Step) ([]api.Event, api.Errno) {
	if !alike(scripts, answers) {
		return nil, api.ErrHistory
	}
	var l []api.Event
	threads := make([]progress, len(scripts))
	for place, s := range trace {
		if s.Op != api.StepBegin && s.Op != api.StepEnd {
			continue
		}
		if s.Thread < 0 || s.Thread >= len(scripts) {
			return nil, api.ErrHistory
		}
		t := &threads[s.Thread]
		if !t.goesOn(s, answers[s.Thread]) {
			return nil, api.ErrHistory
		}
		if s.Op == api.StepBegin {
			t.event = len(l)
			l = append(l, begun(s.Thread, place, scripts[s.Thread][s.Old]))
		} else if a := answers[s.Thread][s.Old]; a.Code != api.ErrStuck {
			l[t.event].End, l[t.event].Answer = place, a
		}
	}
	return l, api.OK
}

// alike tells whether there is an answer to each call, and none besides.
func alike(scripts [][]api.Call, answers [][]api.Answer) bool {
	if len(scripts) != len(answers) {
		return false
	}
	for i, calls := range scripts {
		if len(calls) != len(answers[i]) {
			return false
		}
	}
	return true
}

// progress is how far a thread's notes have come.
type progress struct {
	begun, ended int // how many calls
	event        int // of the call that began last
}

// goesOn tells whether a note may be a thread's next one, and counts it.
func (p *progress) goesOn(s api.Step, answers []api.Answer) bool {
	if s.Op == api.StepBegin {
		next := p.begun
		p.begun++
		return next == p.ended && next < len(answers) && s.Old == next && s.New == 0
	}
	next := p.ended
	p.ended++
	return next < p.begun && s.Old == next && s.New == int(answers[next].Code)
}

// begun is the event of a call that has not ended, so far.
func begun(thread, place int, c api.Call) api.Event {
	return api.Event{Thread: thread, Op: c.Op, A: c.A, B: c.B, Begin: place, End: -1, Answer: api.Answer{Code: api.ErrStuck}}
}
