package trial

import "butler/api"

// Build is how a key is built, as chapters 13 and 14 do it, within a game: of each of its needs rings goes on with whether it closes a ring, get with what it gives. It goes on with what the build comes to.
func Build(r api.Recipe, rings func(need int, then func(ring bool) Next) Next, get func(need int, then func(x api.Answer) Next) Next, then func(x api.Answer) Next) Next {
	var goOn func(left, gave []int) Next
	goOn = func(left, gave []int) Next {
		if len(left) == 0 {
			return then(comesTo(r, gave))
		}
		need := left[0]
		return rings(need, func(ring bool) Next {
			if ring {
				return then(api.Answer{Code: api.ErrBoxRing, Value: need})
			}
			return get(need, func(x api.Answer) Next {
				switch x.Code {
				case api.OK:
					return goOn(left[1:], append(gave[:len(gave):len(gave)], x.Value))
				case api.ErrStuck:
					return then(x)
				}
				return then(api.Answer{Code: api.ErrBoxNeed, Value: need})
			})
		})
	}
	return goOn(r.Needs, nil)
}

// comesTo is what a key comes to whose needs gave that.
func comesTo(r api.Recipe, gave []int) api.Answer {
	switch r.Act {
	case 1:
		return api.Answer{Code: api.ErrOnceFail, Value: r.Value}
	case 2:
		return api.Answer{Code: api.ErrOncePanic, Value: r.Value}
	}
	sum := r.Value
	for _, v := range gave {
		sum += v
	}
	for sum < 0 {
		sum += 1000003
	}
	return api.Answer{Value: sum % 1000003}
}
