package cell_test

import (
	"butler/api"
)

// model is the tests' own world of cells and scripts: it keeps no goroutines, but what each thread is about to do.
type model struct {
	schedule []int
	cells    []int
	changes  []int // how often each cell was changed
	threads  []*modelThread
	last     int
	stuck    bool
	trace    []api.Step
}

type modelThread struct {
	id      int
	calls   []api.Call
	answers []api.Answer // as many as calls have ended
	awaits  bool         // its cell; else it wants a step
	seen    int          // of its cell's changes, when it began to await
}

// played is the trace and the answers of a Play, by the document's words, and whether it was stuck.
func played(schedule, values []int, scripts [][]api.Call) ([]api.Step, [][]api.Answer, bool) {
	m := &model{schedule: schedule, cells: append([]int(nil), values...), changes: make([]int, len(values)), last: -1}
	for i, calls := range scripts {
		x := &modelThread{id: i, calls: calls}
		m.threads = append(m.threads, x)
		m.begin(x)
	}
	for m.turn() {
	}
	var answers [][]api.Answer
	for _, x := range m.threads {
		answers = append(answers, x.answers)
	}
	return m.trace, answers, m.stuck
}

func (m *model) note(thread, cell, op, before, after int) {
	m.trace = append(m.trace, api.Step{Thread: thread, Cell: cell, Op: op, Old: before, New: after})
}

func (x *modelThread) ended() bool { return len(x.answers) == len(x.calls) }

func (x *modelThread) call() api.Call { return x.calls[len(x.answers)] }

// at is which cell a thread's call is about, counted by steps of the cells' number and not by a remainder.
func (m *model) at(a int) int {
	n := len(m.cells)
	if a > 4*n || a < -4*n {
		a -= a / n * n
	}
	for a < 0 {
		a += n
	}
	for a >= n {
		a -= n
	}
	return a
}

// begin brings a thread to its next step or its end.
func (m *model) begin(x *modelThread) {
	for !x.ended() {
		m.note(x.id, -1, api.StepBegin, len(x.answers), 0)
		if op := x.call().Op; op >= 1 && op <= 6 {
			return
		}
		m.end(x, api.ErrArg, 0)
	}
}

func (m *model) end(x *modelThread, code api.Errno, value int) {
	m.note(x.id, -1, api.StepEnd, len(x.answers), int(code))
	x.answers = append(x.answers, api.Answer{Code: code, Value: value})
}

// giveUp ends the call of a thread that is stuck, and all its others.
func (m *model) giveUp(x *modelThread) {
	m.end(x, api.ErrStuck, 0)
	for !x.ended() {
		x.answers = append(x.answers, api.Answer{Code: api.ErrStuck})
	}
}

func (m *model) turn() bool {
	var ready []*modelThread
	waits := false
	for _, x := range m.threads {
		if x.ended() {
			continue
		}
		if !x.awaits || m.stuck || m.changes[m.at(x.call().A)] > x.seen {
			ready = append(ready, x)
		}
		waits = waits || x.awaits
	}
	if len(ready) == 0 {
		if waits {
			m.stuck = true
			m.note(-1, -1, api.StepStuck, 0, 0)
		}
		return waits
	}
	x := m.pick(ready)
	m.last = x.id
	m.goOn(x)
	return true
}

func (m *model) pick(ready []*modelThread) *modelThread {
	if len(m.schedule) > 0 {
		n := m.schedule[0]
		m.schedule = m.schedule[1:]
		return ready[((n%len(ready))+len(ready))%len(ready)]
	}
	for _, x := range ready {
		if x.id > m.last {
			return x
		}
	}
	return ready[0]
}

// goOn lets a thread that was picked do what it was about to do.
func (m *model) goOn(x *modelThread) {
	c := x.call()
	at := m.at(c.A)
	if x.awaits {
		if m.stuck {
			m.giveUp(x)
			return
		}
		x.awaits = false
		m.note(x.id, at, api.StepWake, 0, 0)
		return
	}
	old := m.cells[at]
	next, op, answer := old, c.Op, old
	switch c.Op {
	case 2:
		next, answer = c.B, 0
	case 3:
		next = c.B
	case 4:
		answer = 0
		if old == c.B {
			next, answer = c.C, 1
		}
	case 5:
		next = old + c.B
		answer = next
	case 6:
		op, answer = api.StepLoad, 0
	}
	m.cells[at] = next
	m.note(x.id, at, op, old, next)
	if next != old {
		m.changes[at]++
	}
	switch {
	case c.Op != 6 || old != c.B:
		m.end(x, api.OK, answer)
		m.begin(x)
	case m.stuck:
		m.giveUp(x)
	default:
		x.awaits, x.seen = true, m.changes[at]
	}
}
