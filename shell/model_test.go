package shell_test

import (
	"fmt"
	"regexp"
	"slices"
	"strconv"
	"strings"

	"butler/api"
	"butler/box"
	"butler/cell"
	"butler/chain"
	"butler/counter"
	"butler/gate"
	"butler/history"
	"butler/house"
	"butler/latch"
	"butler/lock"
	"butler/once"
	"butler/recipe"
	"butler/slots"
	"butler/stack"
	"butler/trial"
	"butler/turn"
)

// model tells what a text is to tell: its rows are those of the chapter's table, as they stand there.
type model struct {
	recipes  []api.Recipe
	scripts  [][]api.Call
	schedule []int
	last     trial.Told
	played   [][]api.Call // the scripts of the last Play; none: there was none
}

// modelRow is a row of the table: the line, and what is told of it.
type modelRow struct {
	line *regexp.Regexp
	does func(m *model, n []int) string
}

const aNumber = `-?[0-9]{1,9}`

var (
	modelRows = rowsOfTable()
	wrongByte = regexp.MustCompile(`[\x00-\x08\x0b-\x1f]`)
	noWords   = regexp.MustCompile(`^[ \t]*$`)
	comment   = regexp.MustCompile(`^[ \t]*#`)
)

// lineOf is what a line of the table is: words in capitals are numbers.
func lineOf(line string) *regexp.Regexp {
	var out strings.Builder
	for i, word := range strings.Fields(line) {
		switch {
		case word == "..":
			out.WriteString(`([ \t]+` + aNumber + `)*`)
			continue
		case i > 0:
			out.WriteString(`[ \t]+`)
		}
		if word == strings.ToUpper(word) {
			word = aNumber
		}
		out.WriteString(word)
	}
	return regexp.MustCompile(`^[ \t]*` + out.String() + `[ \t]*$`)
}

func rowsOfTable() []modelRow {
	var out []modelRow
	add := func(line string, does func(m *model, n []int) string) {
		out = append(out, modelRow{lineOf(line), does})
	}
	number := func(name string, play func(w *turn.World, n int, scripts [][]api.Call) ([][]api.Answer, api.Errno)) {
		add("play "+name+" N", func(m *model, n []int) string {
			return m.play(func(w *turn.World, scripts [][]api.Call) ([][]api.Answer, api.Errno) { return play(w, n[0], scripts) })
		})
	}
	lines := func(name string, play func(w *turn.World, l []api.Recipe, scripts [][]api.Call) ([][]api.Answer, api.Errno)) {
		add("play "+name, func(m *model, _ []int) string {
			return m.play(func(w *turn.World, scripts [][]api.Call) ([][]api.Answer, api.Errno) {
				return play(w, m.recipes, scripts)
			})
		})
	}
	add("key LEVEL ACT VALUE END ..", (*model).key)
	add("thread", (*model).thread)
	add("call OP ..", (*model).call)
	add("turns ..", (*model).turns)
	add("clear", (*model).clear)
	add("rings", func(m *model, _ []int) string { return keys(recipe.Rings(m.recipes)) })
	add("fate KEY", (*model).fate)
	add("order ..", func(m *model, n []int) string { return keys(recipe.Order(m.recipes, n)) })
	lines("house", house.Play)
	lines("box", box.Play)
	add("play gate", func(m *model, _ []int) string { return m.play(gate.Play) })
	add("play lock", func(m *model, _ []int) string { return m.play(lock.Play) })
	number("latch", latch.Play)
	number("once", once.Play)
	number("slots", slots.Play)
	number("stack", stack.Play)
	number("counter", counter.Play)
	number("chain", chain.Play)
	add("play cell ..", func(m *model, n []int) string {
		return m.play(func(w *turn.World, scripts [][]api.Call) ([][]api.Answer, api.Errno) { return cell.Play(w, n, scripts) })
	})
	add("trace", (*model).trace)
	add("linear OBJECT START", (*model).linear)
	return out
}

// modelTells is what a text is to tell.
func modelTells(text string) string {
	if len(text) > 100000 {
		return "error 2\n"
	}
	m, told := &model{}, ""
	for _, line := range strings.Split(text, "\n") {
		told += m.tells(line)
	}
	return told
}

// tells is what a line tells, each of its lines with a byte 10 behind.
func (m *model) tells(line string) string {
	if wrongByte.MatchString(line) {
		return "error 170\n"
	}
	if noWords.MatchString(line) || comment.MatchString(line) {
		return ""
	}
	for _, row := range modelRows {
		if row.line.MatchString(line) {
			var n []int
			for _, word := range strings.Fields(line) {
				if x, err := strconv.Atoi(word); err == nil {
					n = append(n, x)
				}
			}
			return row.does(m, n) + "\n"
		}
	}
	return "error 170\n"
}

func keys(l []int) string {
	if len(l) == 0 {
		return "none"
	}
	return strings.Trim(fmt.Sprint(l), "[]")
}

func (m *model) key(n []int) string {
	m.recipes = append(m.recipes, api.Recipe{Level: n[0], Act: n[1], Value: n[2], End: n[3], Needs: n[4:]})
	return "ok"
}

func (m *model) thread([]int) string {
	m.scripts = append(m.scripts, []api.Call{})
	return "ok"
}

func (m *model) call(n []int) string {
	if len(m.scripts) == 0 || len(n) > 4 {
		return "error 170"
	}
	n = append(slices.Clone(n), 0, 0, 0)
	last := len(m.scripts) - 1
	m.scripts[last] = append(slices.Clone(m.scripts[last]), api.Call{Op: n[0], A: n[1], B: n[2], C: n[3]})
	return "ok"
}

func (m *model) turns(n []int) string {
	m.schedule = slices.Concat(m.schedule, n)
	return "ok"
}

func (m *model) clear([]int) string {
	*m = model{}
	return "ok"
}

func (m *model) fate(n []int) string {
	if can, v := recipe.Fate(m.recipes, n[0]); can {
		return fmt.Sprint("yes ", v)
	}
	return "no"
}

func (m *model) play(p trial.Player) string {
	told, e := p.Tell(m.schedule, m.scripts)
	if e != api.OK {
		return fmt.Sprintf("error %d", int(e))
	}
	m.last, m.played = told, slices.Clone(m.scripts)
	out := []string{"ok"}
	if told.Stuck {
		out[0] = "stuck"
	}
	for _, l := range told.Answers {
		var each []string
		for _, x := range l {
			each = append(each, fmt.Sprintf("%d %d", int(x.Code), x.Value))
		}
		if len(each) == 0 {
			each = []string{"none"}
		}
		out = append(out, strings.Join(each, ", "))
	}
	return strings.Join(out, "\n")
}

func (m *model) trace([]int) string {
	if m.played == nil {
		return "error 170"
	}
	if len(m.last.Trace) == 0 {
		return "none"
	}
	var out []string
	for _, s := range m.last.Trace {
		out = append(out, fmt.Sprint(s.Thread, s.Cell, s.Op, s.Old, s.New)) // numbers stand apart
	}
	return strings.Join(out, "\n")
}

func (m *model) linear(n []int) string {
	if m.played == nil {
		return "error 170"
	}
	l, e := history.Of(m.played, m.last.Answers, m.last.Trace)
	if e != api.OK {
		return fmt.Sprintf("error %d", int(e))
	}
	so, e := history.Linear(n[0], n[1], l)
	if e != api.OK {
		return fmt.Sprintf("error %d", int(e))
	}
	return map[bool]string{true: "yes", false: "no"}[so]
}
