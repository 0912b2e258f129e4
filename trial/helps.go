package trial

import (
	"math"
	"slices"

	"butler/api"
)

// Step is one of a thread.
func Step(thread, cell, op, before, after int) api.Step {
	return api.Step{Thread: thread, Cell: cell, Op: op, Old: before, New: after}
}

// Begin is the note that the call i begins.
func Begin(thread, i int) api.Step { return Step(thread, -1, api.StepBegin, i, 0) }

// End is the note that the call i ends.
func End(thread, i int, code api.Errno) api.Step {
	return Step(thread, -1, api.StepEnd, i, int(code))
}

// Bare is a trace without its notes of calls.
func Bare(trace []api.Step) []api.Step {
	return slices.DeleteFunc(slices.Clone(trace), func(s api.Step) bool { return s.Op == api.StepBegin || s.Op == api.StepEnd })
}

// Wakes tells whether a step is a thread's going on behind an Await.
func Wakes(s api.Step) bool { return s.Op == api.StepWake }

// Fails tells whether a step is a Cas that found something else (of a Cas that would have changed the cell).
func Fails(s api.Step) bool { return s.Op == api.StepCas && s.Old == s.New }

// Does tells whether a step is a Cas that was done.
func Does(s api.Step) bool { return s.Op == api.StepCas && s.Old != s.New }

// Number is 1 for what is so.
func Number(so bool) int {
	if so {
		return 1
	}
	return 0
}

// Ops are calls of those, with nothing beside.
func Ops(l ...int) []api.Call {
	out := make([]api.Call, len(l))
	for i, op := range l {
		out[i].Op = op
	}
	return out
}

// Codes are answers whose Values are 0.
func Codes(l ...api.Errno) []api.Answer {
	out := make([]api.Answer, len(l))
	for i, e := range l {
		out[i].Code = e
	}
	return out
}

// Values are answers without an error.
func Values(l ...int) []api.Answer {
	out := make([]api.Answer, len(l))
	for i, v := range l {
		out[i].Value = v
	}
	return out
}

// Same tells whether all threads were answered alike.
func Same(a, b [][]api.Answer) bool {
	return slices.EqualFunc(a, b, slices.Equal[[]api.Answer])
}

// Roomy is a list with spare room, in which something stands.
func Roomy[T any](mark T, l ...T) []T {
	return append(slices.Clone(l), mark, mark)[:len(l)]
}

// Shares tells whether two of these lists share memory, spare room too. It writes them over to see.
func Shares(a [][]api.Answer) bool {
	for i, l := range a {
		room := l[:cap(l)]
		for j := range room {
			room[j] = api.Answer{Value: i}
		}
	}
	for i, l := range a {
		for _, x := range l[:cap(l)] {
			if x.Value != i {
				return true
			}
		}
	}
	return false
}

// Row is a row of numbers that looks like no rule, the same each time.
type Row uint64

// Below is a number from 0 to one below n.
func (r *Row) Below(n int) int {
	*r = *r*6364136223846793005 + 1442695040888963407
	return int(uint64(*r)>>33) % n
}

// One picks one of those.
func (r *Row) One(l ...int) int { return l[r.Below(len(l))] }

// Schedule is one of fewer numbers than most, of all kinds.
func (r *Row) Schedule(most int) []int {
	out := make([]int, r.Below(most))
	for i := range out {
		out[i] = r.One(0, 1, 2, 3, 4, 5, 6, 7, 8, 100, -1, -2, -3, -100, math.MaxInt, math.MinInt)
	}
	return out
}

// Scripts are some for 1 to so many threads, each of at most so many calls of these Ops; what a call has beside its Op is of all kinds.
func (r *Row) Scripts(threads, most int, ops ...int) [][]api.Call {
	out := make([][]api.Call, 1+r.Below(threads))
	for i := range out {
		for range r.Below(most + 1) {
			out[i] = append(out[i], api.Call{Op: r.One(ops...), A: r.Below(3), B: -r.Below(3), C: r.One(math.MaxInt, math.MinInt, 0)})
		}
	}
	return out
}

// TreeScripts are some that ask, open and close in a tree of scopes, mostly in few of them, and for keys that there are; some have an Op of others, if there are any.
func (r *Row) TreeScripts(keys, threads, most int, others ...int) [][]api.Call {
	ops := slices.Concat(slices.Repeat([]int{1}, r.One(3, 8)), slices.Repeat([]int{2}, r.One(1, 3, 3)), slices.Repeat([]int{3}, r.One(0, 1, 1, 2)), others)
	out := r.Scripts(threads, most, ops...)
	scopes, few := r.One(1, 1, 2, 4, 8), r.One(1, 2, keys, keys)
	for _, calls := range out {
		for i := range calls {
			calls[i].A, calls[i].B = r.Below(scopes), r.Below(min(few, keys))
			if r.Below(20) == 0 {
				calls[i].A = r.One(-1, 49, 50, 1<<32, math.MaxInt, math.MinInt)
			}
			if r.Below(20) == 0 {
				calls[i].B = r.One(-1, keys, keys+1, -keys, 1<<32, math.MaxInt, math.MinInt)
			}
		}
	}
	for n := range scopes - 1 { // most of them are there ahead of all others
		out[0] = slices.Insert(out[0], n, api.Call{Op: 2, A: r.One(n, n, r.Below(n+1))})
	}
	return out
}
