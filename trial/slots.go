package trial

import "butler/api"

// A word with a version, in numbers: what stands there beside is below One; the version is so many times One, and goes round at Versions.
const (
	One      = 1 << 32
	Versions = 1 << 30
)

// Newer is the word behind h, by a version, with that beside.
func Newer(h, beside int) int { return beside + One*((h/One+1)%Versions) }

// Slots are the slots of chapter 8 within a game: from which of its cells on, and how many.
type Slots struct{ At, Many int }

// Head is the cell HEAD.
func (s Slots) Head() int { return s.At }

// Next is the cell NEXT of a slot.
func (s Slots) Next(i int) int { return s.At + 1 + 2*i }

// Used is the cell USED of a slot.
func (s Slots) Used(i int) int { return s.At + 2 + 2*i }

// Cells are what stands in the slots' cells at first, with that VERSION. Behind the last slot the numbers go round to 0, which is none.
func (s Slots) Cells(version int) []int {
	out := []int{One*version + min(s.Many, 1)}
	for i := 1; i <= s.Many; i++ {
		out = append(out, (i+1)%(s.Many+1), 0)
	}
	return out
}

// change is what it is to change HEAD.
func (s Slots) change(h, to int, again, then func() Next) Next {
	return Cas(s.Head(), h, Newer(h, to), func(done bool) Next {
		if !done {
			return again()
		}
		return then()
	})
}

// Take is a Take, which goes on with what it answers.
func (s Slots) Take(then func(i int, e api.Errno) Next) Next {
	return Load(s.Head(), func(h int) Next {
		if h%One == 0 {
			return then(0, api.ErrSlotsFull)
		}
		i := h%One - 1
		return Load(s.Next(i), func(x int) Next {
			return s.change(h, x, func() Next { return s.Take(then) }, func() Next {
				return Store(s.Used(i), 1, func() Next { return then(i, api.OK) })
			})
		})
	})
}

// Give is a Give of i, which goes on with what it answers.
func (s Slots) Give(i int, then func(e api.Errno) Next) Next {
	if i < 0 || i >= s.Many {
		return then(api.ErrArg)
	}
	return Cas(s.Used(i), 1, 0, func(done bool) Next {
		if !done {
			return then(api.ErrSlotsFree)
		}
		return s.put(i, then)
	})
}

// put is what a Give does again and again.
func (s Slots) put(i int, then func(e api.Errno) Next) Next {
	return Load(s.Head(), func(h int) Next {
		return Store(s.Next(i), h%One, func() Next {
			return s.change(h, i+1, func() Next { return s.put(i, then) }, func() Next { return then(api.OK) })
		})
	})
}
