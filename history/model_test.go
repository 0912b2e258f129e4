package history_test

import (
	"math"
	"slices"

	"butler/api"
)

// model is an object as the chapter's table tells it, of any of the five kinds.
type model struct {
	object int
	number int
	stack  []int
	onces  []*api.Answer
}

// reply is one of the answers that it can give, and what it is then.
type reply struct {
	answer api.Answer
	then   model
}

// fresh is one that starts so.
func fresh(object, n int) model {
	m := model{object: object, number: n}
	if object == 5 {
		m.onces = make([]*api.Answer, n)
	}
	return m
}

func (m model) with(n int) model {
	m.number = n
	return m
}

// replies tells all that it can answer to a call.
func (m model) replies(op, a, b int) []reply {
	switch m.object {
	case 1:
		return m.adder(op, a)
	case 2:
		return m.pile(op, a)
	case 3:
		if op == 1 {
			return []reply{{answer(0, 0), m.with(m.number + a - a/1000*1000)}}
		} else if op == 2 {
			return []reply{{answer(0, m.number), m}}
		}
	case 4:
		if op == 1 && m.number > 0 {
			return []reply{{answer(0, 0), m.with(m.number - 1)}}
		} else if op == 1 {
			return []reply{{answer(api.ErrLatchLow, 0), m}}
		} else if op == 2 && m.number == 0 {
			return []reply{{answer(0, 0), m}}
		}
	case 5:
		if op >= 1 && op <= 4 {
			return m.once(op, ((a%len(m.onces))+len(m.onces))%len(m.onces), b)
		}
	}
	return nil
}

func (m model) adder(op, a int) []reply {
	if op == 1 || op == 2 {
		l := []reply{{answer(0, m.number), m.with(m.number + a)}}
		if op == 2 {
			l = append(l, reply{answer(0, -1), m})
		}
		return l
	}
	return nil
}

func (m model) pile(op, a int) []reply {
	next := m
	switch {
	case op == 1:
		next.stack = append(slices.Clone(m.stack), a)
		return []reply{{answer(0, 0), next}, {answer(api.ErrSlotsFull, 0), m}}
	case op == 2 && len(m.stack) == 0:
		return []reply{{answer(api.ErrStackEmpty, 0), m}}
	case op == 2:
		next.stack = m.stack[:len(m.stack)-1]
		return []reply{{answer(0, m.stack[len(m.stack)-1]), next}}
	}
	return nil
}

func (m model) once(op, which, b int) []reply {
	if has := m.onces[which]; has != nil {
		return []reply{{*has, m}}
	}
	a := []api.Answer{{}, answer(0, b), answer(70, b), answer(71, b), answer(70, 72)}[op]
	next := m
	next.onces = slices.Clone(m.onces)
	next.onces[which] = &a
	return []reply{{a, next}}
}

// ahead as the chapter says it.
func ahead(x, y api.Event) bool { return x.End != -1 && x.End < y.Begin }

// isHistory as the chapter says it.
func isHistory(l []api.Event) bool {
	for i, x := range l {
		if x.Begin < 0 || !(x.End == -1 || x.End > x.Begin) {
			return false
		}
		for j, y := range l {
			if i != j && x.Thread == y.Thread && !ahead(x, y) && !ahead(y, x) {
				return false
			}
		}
	}
	return true
}

// linear tries all orders of all choices of events, each to its end: it forgets nothing, and leaves nothing out.
func linear(object, n int, l []api.Event) bool {
	found := false
	orders(len(l), nil, func(order []int) {
		found = found || explains(fresh(object, n), l, order)
	})
	return found
}

// orders tells all orders of some of so many, that begin so.
func orders(n int, order []int, tell func([]int)) {
	tell(order)
	for i := range n {
		if !slices.Contains(order, i) {
			orders(n, append(slices.Clone(order), i), tell)
		}
	}
}

func explains(m model, l []api.Event, order []int) bool {
	for i, x := range l {
		if x.End != -1 && !slices.Contains(order, i) {
			return false
		}
	}
	for i, x := range order {
		for _, y := range order[:i] {
			if ahead(l[x], l[y]) {
				return false
			}
		}
	}
	return gives(m, l, order)
}

// gives tells whether the object can give the answers in that order.
func gives(m model, l []api.Event, order []int) bool {
	if len(order) == 0 {
		return true
	}
	x := l[order[0]]
	for _, r := range m.replies(x.Op, x.A, x.B) {
		if (x.End == -1 || r.answer == x.Answer) && gives(r.then, l, order[1:]) {
			return true
		}
	}
	return false
}

// source is a row of numbers that looks like no rule, the same each time.
type source uint64

func (s *source) below(n int) int {
	*s = *s*6364136223846793005 + 1442695040888963407
	return int(uint64(*s)>>33) % n
}

// one picks one of those.
func (s *source) one(l ...int) int { return l[s.below(len(l))] }

// start is one that the object may have.
func (s *source) start(object int) int {
	switch object {
	case 2:
		return 0
	case 4:
		return s.one(0, 1, 1, 2, 3, math.MaxInt)
	case 5:
		return s.one(1, 1, 2, 3, 1000)
	}
	return s.one(0, 0, 5, -1, -2, math.MaxInt, math.MinInt)
}

// call is one of the object, most times.
func (s *source) call(object int) api.Event {
	op := s.one(1, 1, 2, 2)
	if object == 5 {
		op = s.one(1, 2, 3, 4)
	}
	if s.below(40) == 0 {
		op = s.one(0, 3, 5, -1)
	}
	return api.Event{Op: op, A: s.one(0, 1, 1, 2, -1, -2, 1000, 1001, -1003, math.MaxInt, math.MinInt), B: s.one(0, 1, 2, 72)}
}

// history is one of at most so many events of an object, each of which takes effect at some time between its Begin and its End: it is linear. Some of its events are not over, of which some have taken effect.
func (s *source) history(object, n, most int) []api.Event {
	m := fresh(object, n)
	threads := []int{3, -7, 0, math.MaxInt, 1}[:1+s.below(5)]
	goes := make([]int, len(threads)) // which event each thread is in, from 1 on
	done := make([]bool, most)
	var l []api.Event
	effect := func(i int) bool {
		r := m.replies(l[i].Op, l[i].A, l[i].B)
		if len(r) == 0 || done[i] {
			return done[i]
		}
		k := r[s.below(len(r))]
		m, done[i], l[i].Answer = k.then, true, k.answer
		return true
	}
	now := s.below(3)
	last := make([]int, len(threads))
	for range 3 * most {
		i := s.below(len(threads))
		now += s.one(0, 1, 1, 4)
		if goes[i] == 0 && len(l) < most {
			now = max(now, last[i]+1)
			x := s.call(object)
			x.Thread, x.Begin, x.End = threads[i], now, -1
			x.Answer = answer(api.ErrStuck, 0)
			l, goes[i], last[i] = append(l, x), len(l)+1, now
		} else if goes[i] != 0 && s.below(3) == 0 {
			effect(goes[i] - 1)
		} else if goes[i] != 0 && effect(goes[i]-1) {
			now = max(now, last[i]+1)
			l[goes[i]-1].End, goes[i], last[i] = now, 0, now
		}
	}
	s.mix(l)
	return l
}

// mix lays events in another order.
func (s *source) mix(l []api.Event) {
	for i := range l {
		j := s.below(i + 1)
		l[i], l[j] = l[j], l[i]
	}
}

// spoil changes an event, so that it may be that nothing explains the history any more.
func (s *source) spoil(object int, l []api.Event) {
	if len(l) == 0 {
		return
	}
	x, y := &l[s.below(len(l))], l[s.below(len(l))]
	switch s.below(6) {
	case 0:
		x.Answer = y.Answer
	case 1:
		x.Answer.Value = s.one(0, -1, 1, 2, 72, x.Answer.Value+1)
	case 2:
		x.Answer.Code = api.Errno(s.one(0, 1, 4, 50, 70, 71, 80, 90))
	case 3:
		x.Op, x.A, x.B = y.Op, y.A, y.B
	case 4:
		x.A, x.B = y.B, y.A
	case 5: // later, so that others are ahead of it
		by := s.below(9)
		if x.Begin += by; x.End != -1 {
			x.End += by
		}
	}
}

func answer(code api.Errno, value int) api.Answer { return api.Answer{Code: code, Value: value} }
