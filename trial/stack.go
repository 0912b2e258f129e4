package trial

import "butler/api"

// Stack is the stack of chapter 9 within a game: from which of its cells on, and with room for how many.
type Stack struct{ At, Many int }

// Slots are its slots, which are its first cells.
func (s Stack) Slots() Slots { return Slots{At: s.At, Many: s.Many} }

// Head is the cell HEAD: a TOP below One, and a version.
func (s Stack) Head() int { return s.At + 2*s.Many + 1 }

// Value is the cell VALUE of a slot.
func (s Stack) Value(i int) int { return s.At + 2*s.Many + 2 + 2*i }

// Link is the cell LINK of a slot.
func (s Stack) Link(i int) int { return s.At + 2*s.Many + 3 + 2*i }

// Cells are what stands in the stack's cells at first.
func (s Stack) Cells() []int { return append(s.Slots().Cells(0), make([]int, 1+2*s.Many)...) }

// Push is a Push of v, which goes on with what it answers.
func (s Stack) Push(v int, then func(e api.Errno) Next) Next {
	return s.Slots().Take(func(i int, e api.Errno) Next {
		if e != api.OK {
			return then(e)
		}
		return Store(s.Value(i), v, func() Next { return s.put(i, then) })
	})
}

// put is a Push from 3 on.
func (s Stack) put(i int, then func(e api.Errno) Next) Next {
	return Load(s.Head(), func(h int) Next {
		return Store(s.Link(i), h%One, func() Next {
			return Cas(s.Head(), h, Newer(h, i+1), func(done bool) Next {
				if !done {
					return s.put(i, then)
				}
				return then(api.OK)
			})
		})
	})
}

// Pop is a Pop, which goes on with what it answers.
func (s Stack) Pop(then func(v int, e api.Errno) Next) Next {
	return Load(s.Head(), func(h int) Next {
		if h%One == 0 {
			return then(0, api.ErrStackEmpty)
		}
		i := h%One - 1
		return Load(s.Link(i), func(x int) Next {
			return Cas(s.Head(), h, Newer(h, x), func(done bool) Next {
				if !done {
					return s.Pop(then)
				}
				return s.give(i, then)
			})
		})
	})
}

// give is a Pop from 4 on.
func (s Stack) give(i int, then func(v int, e api.Errno) Next) Next {
	return Load(s.Value(i), func(v int) Next {
		return s.Slots().Give(i, func(api.Errno) Next { return then(v, api.OK) })
	})
}
