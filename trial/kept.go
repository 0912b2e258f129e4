package trial

import "butler/api"

// WORDs of chapter 7, in numbers: a STATE below 4 (0 new, 1 going, 2 done), four times a WHO below 256, 1024 times a CODE.

// Going is the WORD of what that thread carries out.
func Going(who int) int { return 1 + 4*who }

// Done is the WORD of what is done, and came to that code.
func Done(code api.Errno) int { return 2 + 1024*int(code) }

// Kept is an answer that is kept, as chapter 7 does it, within a game: its WORD is the cell At, its VALUE the next one.
type Kept struct{ At int }

// Get goes on with the answer. The first thread that comes does the work for it, which goes on with what it comes to.
func (k Kept) Get(who int, work func(then func(x api.Answer) Next) Next, then func(x api.Answer) Next) Next {
	again := func() Next { return k.Get(who, work, then) }
	return Load(k.At, func(v int) Next {
		switch {
		case v%4 == 2:
			return Load(k.At+1, func(x int) Next { return then(api.Answer{Code: api.Errno(v / 1024), Value: x}) })
		case v%4 == 0:
			return Cas(k.At, v, Going(who), func(done bool) Next {
				if !done {
					return again()
				}
				return work(func(x api.Answer) Next { return k.keep(x, then) })
			})
		case v/4%256 == who:
			return then(api.Answer{Code: api.ErrOnceAgain})
		}
		return Await(k.At, func(changed bool) Next {
			if !changed {
				return then(api.Answer{Code: api.ErrStuck})
			}
			return again()
		})
	})
}

// keep is what follows behind the work: nothing, if that was stuck.
func (k Kept) keep(x api.Answer, then func(x api.Answer) Next) Next {
	if x.Code == api.ErrStuck {
		return then(x)
	}
	return Store(k.At+1, x.Value, func() Next {
		return Store(k.At, Done(x.Code), func() Next { return then(x) })
	})
}
