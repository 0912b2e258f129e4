package recipe_test

import (
	"slices"

	"butler/api"
)

// model tells what the chapter's words say of recipes that are right, as plainly as they do.
type model struct {
	l       []api.Recipe
	reaches [][]bool // who reaches whom
	can     []bool
	gives   []int // of those that can be built
}

func modelOf(l []api.Recipe) model {
	m := model{l: l, reaches: make([][]bool, len(l)), can: make([]bool, len(l)), gives: make([]int, len(l))}
	for key, r := range l {
		m.reaches[key] = make([]bool, len(l))
		for _, need := range r.Needs {
			m.reaches[key][need] = true
		}
	}
	for by := range l {
		for from := range l {
			for to := range l {
				m.reaches[from][to] = m.reaches[from][to] || m.reaches[from][by] && m.reaches[by][to]
			}
		}
	}
	for key := range l {
		m.can[key] = !slices.ContainsFunc(m.counting(key), func(k int) bool { return l[k].Act != 0 || m.reaches[k][k] })
	}
	for range l {
		m.sum()
	}
	return m
}

// counting are the key and all that it reaches, rising.
func (m model) counting(key int) []int {
	var out []int
	for k := range m.l {
		if k == key || m.reaches[key][k] {
			out = append(out, k)
		}
	}
	return out
}

// sum adds up what each key's needs give. Done as often as there are keys, it is right for all that are in no ring.
func (m model) sum() {
	for key, r := range m.l {
		sum := r.Value
		for _, need := range r.Needs {
			sum += m.gives[need]
		}
		if m.can[key] {
			m.gives[key] = ((sum % 1000003) + 1000003) % 1000003
		}
	}
}

func (m model) rings() []int {
	var out []int
	for key := range m.l {
		if m.reaches[key][key] {
			out = append(out, key)
		}
	}
	return out
}

func (m model) order(keys []int) []int {
	var begun, told []int
	var ask func(key int)
	ask = func(key int) {
		if key < 0 || key >= len(m.l) || slices.Contains(begun, key) {
			return
		}
		begun = append(begun, key)
		for _, need := range m.l[key].Needs {
			ask(need)
			if !m.can[need] {
				break
			}
		}
		if m.can[key] {
			told = append(told, key)
		}
	}
	for _, key := range keys {
		ask(key)
	}
	return told
}
