package recipe

import "butler/api"

// modulus: what a key gives is told modulo this.
const modulus = 1000003

// build is how far one who asks for keys has come: which were not begun yet, what those give that were built, and these as they were told.
type build struct {
	l       []api.Recipe
	unbegun keySet
	gives   map[int]int
	told    []int
}

func newBuild(l []api.Recipe) *build {
	return &build{l: l, unbegun: allKeys(l), gives: map[int]int{}}
}

// ask asks for a key, if there is such a one. Behind that it has been told, or it cannot be built, or it is being built just now, by one who asks for it again: then it is in a ring, and cannot be built either. So what gives nothing when it was asked for cannot be built, and nobody has to look for rings first.
func (b *build) ask(key int) {
	if !b.unbegun.take(key) {
		return
	}
	r := b.l[key]
	sum := r.Value
	for _, need := range r.Needs {
		b.ask(need)
		gives, can := b.gives[need]
		if !can {
			return
		}
		sum += gives
	}
	if r.Act == 0 {
		b.gives[key] = (sum%modulus + modulus) % modulus
		b.told = append(b.told, key)
	}
}
