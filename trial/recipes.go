package trial

import "butler/api"

// Recipes are some that are right, for 1 to so many keys: with rings and without, on few Levels or many, with Acts that fail or none.
func (r *Row) Recipes(most int) []api.Recipe {
	l := make([]api.Recipe, 1+r.Below(most))
	way, fails := r.Below(4), r.One(1, 4, 12)
	for key := range l {
		l[key] = api.Recipe{Needs: r.needs(way, key, len(l)), Level: r.One(0, 0, 0, 1, 2, api.MaxLevels-1), Value: r.value(), End: r.Below(3)}
		if r.Below(fails) == 1 {
			l[key].Act = r.One(1, 2)
		}
	}
	lift(l)
	return l
}

// needs are some of a key: of those below it, of those above it, mostly of those below it, or of all.
func (r *Row) needs(way, key, many int) []int {
	var out []int
	for range r.One(0, 0, 1, 1, 1, 2, 2, 3, 4, r.Below(api.MaxNeeds+1)) {
		switch {
		case way == 0 || way == 2 && r.Below(8) > 0:
			if key > 0 {
				out = append(out, r.Below(key))
			}
		case way == 1:
			if key < many-1 {
				out = append(out, key+1+r.Below(many-1-key))
			}
		default:
			out = append(out, r.Below(many))
		}
	}
	return out
}

func (r *Row) value() int { return r.One(-1000, 1000, 0, r.Below(2001)-1000) }

// lift raises Levels that are below that of a need.
func lift(l []api.Recipe) {
	for range l {
		for key := range l {
			for _, need := range l[key].Needs {
				l[key].Level = max(l[key].Level, l[need].Level)
			}
		}
	}
}
