package trial

import "butler/api"

// Gate is the gate of chapter 6 within a game: which of its cells it is. There stand twice as many as are in, and 1 more, if it is shut; at first 0.
type Gate struct{ At int }

// Enter is an Enter, which goes on with what it answers.
func (g Gate) Enter(then func(e api.Errno) Next) Next {
	return Load(g.At, func(v int) Next {
		if v%2 == 1 {
			return then(api.ErrGateShut)
		}
		return Cas(g.At, v, v+2, func(done bool) Next {
			if done {
				return then(api.OK)
			}
			return g.Enter(then)
		})
	})
}

// Leave is a Leave, which goes on with what it answers.
func (g Gate) Leave(then func(e api.Errno) Next) Next {
	return Load(g.At, func(v int) Next {
		if v < 2 {
			return then(api.ErrGateEmpty)
		}
		return Cas(g.At, v, v-2, func(done bool) Next {
			if done {
				return then(api.OK)
			}
			return g.Leave(then)
		})
	})
}

// Shut is a Shut, which goes on with what it answers: its points 1 and 2.
func (g Gate) Shut(then func(first bool, e api.Errno) Next) Next {
	return Load(g.At, func(v int) Next {
		if v%2 == 1 {
			return g.looks(false, then)
		}
		return Cas(g.At, v, v+1, func(done bool) Next {
			if done {
				return g.looks(true, then)
			}
			return g.Shut(then)
		})
	})
}

// looks is Shut's points 3 and 4.
func (g Gate) looks(first bool, then func(first bool, e api.Errno) Next) Next {
	return Load(g.At, func(v int) Next {
		if v == 1 {
			return then(first, api.OK)
		}
		return Await(g.At, func(changed bool) Next {
			if changed {
				return g.looks(first, then)
			}
			return then(false, api.ErrStuck)
		})
	})
}
