// Package build is what several layers have in common: how a key is built, its needs first (doc/13-box.md, which doc/14-scope.md takes over). Where its needs live, and who is told of a ring, is each layer's own.
package build

import "butler/api"

// Key is what building a key comes to: its needs are got up to the first one that cannot be had. Of each need it is asked, ahead of getting it, whether that closes a ring: so of threads that would wait for one another in a ring one at least is told, and does not wait.
func Key(r api.Recipe, rings func(need int) bool, get func(need int) api.Answer) api.Answer {
	x := ready{value: r.Value}
	for _, need := range r.Needs {
		if rings(need) {
			return api.Answer{Code: api.ErrBoxRing, Value: need}
		}
		got := get(need)
		switch got.Code {
		case api.OK:
			x.needs += got.Value
		case api.ErrStuck:
			return got
		default:
			return api.Answer{Code: api.ErrBoxNeed, Value: need}
		}
	}
	return x.comesTo(r.Act)
}
