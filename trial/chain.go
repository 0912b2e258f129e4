package trial

// Chain is the chain of chapter 12 within a game: from which of its cells on, and of how many keys.
type Chain struct{ At, Many int }

// Wait is the cell WAIT of a key.
func (c Chain) Wait(k int) int { return c.At + k }

// Cells are what stands in the chain's cells at first.
func (c Chain) Cells() []int { return make([]int, c.Many) }

func (c Chain) has(k int) bool { return 0 <= k && k < c.Many }

// Ask is an Ask, which goes on with what it answers.
func (c Chain) Ask(from, to int, then func(ring bool) Next) Next {
	if !c.has(from) || !c.has(to) {
		return then(false)
	}
	return Store(c.Wait(from), to+1, func() Next { return c.goes(from, to, c.Many, then) })
}

// goes is what an Ask does from 2 on, with so many times left.
func (c Chain) goes(from, x, left int, then func(ring bool) Next) Next {
	if left == 0 {
		return then(false)
	}
	if x == from {
		return then(true)
	}
	return Load(c.Wait(x), func(y int) Next {
		if y == 0 {
			return then(false)
		}
		return c.goes(from, y-1, left-1, then)
	})
}
