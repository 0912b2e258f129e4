package trial

import (
	"slices"
	"strconv"

	"butler/api"
)

// Outcomes are all that the threads of a game can be answered, in whatever order they go. Unlike Schedules it goes on only once from where several orders come to the same: so it comes to an end where these are far too many. (What Call keeps must hang on what the threads were told alone.)
func (g Game) Outcomes() [][][]api.Answer {
	var out [][][]api.Answer
	met, left := map[string]int{}, [][]int{nil} // left: beginnings of schedules
	for len(left) > 0 {
		schedule := left[len(left)-1]
		left = left[:len(left)-1]
		m := g.upTo(schedule)
		state, ready := m.state(), m.readyOnes()
		if met[state]++; met[state] > 1 {
			continue
		}
		for i := range ready {
			left = append(left, append(slices.Clone(schedule), i))
		}
		if ready == 0 && !slices.ContainsFunc(out, func(a [][]api.Answer) bool { return Same(a, m.answers()) }) {
			out = append(out, m.answers())
		}
	}
	return out
}

// upTo is a game behind the turns that a schedule picks; if somebody waits for nobody, behind that, too.
func (g Game) upTo(schedule []int) *world {
	m := g.begin(schedule, true)
	for len(m.picked) < len(schedule) {
		m.turn()
	}
	if m.readyOnes() == 0 {
		m.turn()
	}
	return m
}

// readyOnes tells how many threads could go.
func (m *world) readyOnes() int {
	many := 0
	for _, x := range m.threads {
		many += Number(m.isReady(x))
	}
	return many
}

// state tells two worlds of one game apart from which it might go on otherwise.
func (m *world) state() string {
	var out []byte
	put := func(v int) { out = append(strconv.AppendInt(out, int64(v), 36), ' ') }
	put(Number(m.stuck))
	for _, v := range m.cells {
		put(v)
	}
	for _, x := range m.threads {
		out = append(out, '/')
		put(Number(m.isReady(x)))
		for _, v := range x.got {
			put(v)
		}
	}
	return string(out)
}
