package trial

import (
	"slices"

	"butler/api"
)

// Game is a Play: what stands in its cells at first, its scripts, and what a call of a thread does.
type Game struct {
	Cells   []int
	Scripts [][]api.Call
	Call    func(thread int, c api.Call) Next
	Start   func() // if there is one: it makes Call forget what it kept of the game before, since one game is played many times
}

// Told is what a Play tells: its world's trace, its answers, and whether its world was stuck.
type Told struct {
	Trace   []api.Step
	Answers [][]api.Answer
	Stuck   bool
}

// Same tells whether two Plays told the same.
func (x Told) Same(y Told) bool {
	return slices.Equal(x.Trace, y.Trace) && Same(x.Answers, y.Answers) && x.Stuck == y.Stuck
}

// Count tells how many steps of the trace are of that kind.
func (x Told) Count(is func(s api.Step) bool) int {
	many := 0
	for _, s := range x.Trace {
		many += Number(is(s))
	}
	return many
}

// Stands is what stands in the cells in the end, of those in which that stood at first; of a game that makes no more of them.
func (x Told) Stands(first []int) []int {
	out := slices.Clone(first)
	for _, s := range x.Trace {
		if s.Cell >= 0 {
			out[s.Cell] = s.New
		}
	}
	return out
}

// Play is what a game tells under a schedule.
func (g Game) Play(schedule []int) Told {
	m := g.run(schedule, false)
	return Told{Trace: m.trace, Answers: m.answers(), Stuck: m.stuck}
}

// Schedules goes through all orders in which a game's threads can go, each told by a schedule that picks every turn.
func (g Game) Schedules(yield func(schedule []int) bool) {
	schedule := []int{}
	for {
		m := g.run(schedule, true)
		if !yield(slices.Clone(m.picked)) {
			return
		}
		last := len(m.picked) - 1
		for last >= 0 && m.picked[last]+1 == m.ready[last] {
			last--
		}
		if last < 0 {
			return
		}
		schedule = append(m.picked[:last], m.picked[last]+1)
	}
}

// world is where a game goes on: it keeps what each thread is about to do.
type world struct {
	call     func(thread int, c api.Call) Next
	schedule []int
	first    bool // behind the schedule's end always the first one goes, not the next one in turn
	last     int
	cells    []int
	changes  []int // how often each cell was changed
	threads  []*thread
	stuck    bool
	trace    []api.Step
	picked   []int // of each turn: which place was picked
	ready    []int // of each turn: of how many
}

type thread struct {
	id      int
	calls   []api.Call
	answers []api.Answer // of the calls that have ended
	next    Next
	seen    int   // of its cell's changes, when it came to what is next
	got     []int // all that its steps, awaits and new cells told it: by that it is where it is
}

// take takes what a thread was told, and goes on to what comes next.
func (x *thread) take(got int) {
	x.got = append(x.got, got)
	x.next = x.next.then(got)
}

func (x *thread) ended() bool { return len(x.answers) == len(x.calls) }

func (x *thread) awaits() bool { return !x.ended() && x.next.op == api.StepWake }

func (g Game) run(schedule []int, first bool) *world {
	m := g.begin(schedule, first)
	for m.turn() {
	}
	return m
}

// begin brings each thread to its first step.
func (g Game) begin(schedule []int, first bool) *world {
	if g.Start != nil {
		g.Start()
	}
	m := &world{call: g.Call, schedule: schedule, first: first, last: -1, cells: slices.Clone(g.Cells), changes: make([]int, len(g.Cells))}
	for i, calls := range g.Scripts {
		x := &thread{id: i, calls: calls}
		m.threads = append(m.threads, x)
		m.begin(x)
		m.settle(x)
	}
	return m
}

// answers are those of all threads, as far as they have come.
func (m *world) answers() [][]api.Answer {
	var out [][]api.Answer
	for _, x := range m.threads {
		out = append(out, x.answers)
	}
	return out
}

func (m *world) note(thread, cell, op, before, after int) {
	m.trace = append(m.trace, Step(thread, cell, op, before, after))
}

// begin begins a thread's next call, if it has one.
func (m *world) begin(x *thread) {
	if !x.ended() {
		m.note(x.id, -1, api.StepBegin, len(x.answers), 0)
		x.next = m.call(x.id, x.calls[len(x.answers)])
	}
}

// end ends a thread's call; behind one that was stuck all its others.
func (m *world) end(x *thread) {
	m.note(x.id, -1, api.StepEnd, len(x.answers), int(x.next.answer.Code))
	x.answers = append(x.answers, x.next.answer)
	for x.next.answer.Code == api.ErrStuck && !x.ended() {
		x.answers = append(x.answers, api.Answer{Code: api.ErrStuck})
	}
	m.begin(x)
}

// settle brings a thread, with what it notes and makes on the way, to its next step, to an await, or to its end.
func (m *world) settle(x *thread) {
	for !x.ended() {
		switch {
		case x.next.then == nil:
			m.end(x)
		case x.next.op == makes:
			x.take(m.make(x.next.made))
		case x.next.cell == noCell:
			m.note(x.id, noCell, x.next.op, x.next.a, x.next.b)
			x.take(0)
		case x.awaits() && m.stuck:
			x.take(0)
		default:
			x.seen = m.changes[x.next.cell]
			return
		}
	}
}

// make makes new cells, and tells the number of the first of them.
func (m *world) make(first []int) int {
	at := len(m.cells)
	m.cells = append(m.cells, first...)
	m.changes = append(m.changes, make([]int, len(first))...)
	return at
}

// isReady tells whether a thread could go.
func (m *world) isReady(x *thread) bool {
	return !x.ended() && (!x.awaits() || m.stuck || m.changes[x.next.cell] != x.seen)
}

// turn lets one thread go; false: nobody is left.
func (m *world) turn() bool {
	var ready []*thread
	for _, x := range m.threads {
		if m.isReady(x) {
			ready = append(ready, x)
		}
	}
	if len(ready) > 0 {
		m.goOn(m.pick(ready))
		return true
	}
	if !slices.ContainsFunc(m.threads, (*thread).awaits) {
		return false
	}
	m.stuck = true
	m.note(-1, -1, api.StepStuck, 0, 0)
	return true
}

func (m *world) pick(ready []*thread) *thread {
	at := 0
	if turns := len(m.picked); turns < len(m.schedule) {
		at = (m.schedule[turns]%len(ready) + len(ready)) % len(ready)
	} else if !m.first {
		at = max(0, slices.IndexFunc(ready, func(x *thread) bool { return x.id > m.last }))
	}
	m.picked = append(m.picked, at)
	m.ready = append(m.ready, len(ready))
	m.last = ready[at].id
	return ready[at]
}

// goOn lets a thread do what it was about to do.
func (m *world) goOn(x *thread) {
	at := x.next.cell
	switch {
	case !x.awaits():
		stood := m.cells[at]
		m.cells[at] = x.next.leaves(stood)
		m.note(x.id, at, x.next.op, stood, m.cells[at])
		if m.cells[at] != stood {
			m.changes[at]++
		}
		x.take(stood)
	case !m.stuck:
		m.note(x.id, at, api.StepWake, 0, 0)
		x.take(1)
	}
	m.settle(x)
}
