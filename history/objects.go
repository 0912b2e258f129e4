package history

import "butler/api"

// The objects.
const (
	adder   = 1
	stack   = 2
	counter = 3
	latch   = 4
	onces   = 5
)

// most is how many onces there may be.
const most = 1000

// again is what a once that asks for itself fails with.
const again = int(api.ErrOnceAgain)

// mayStart tells whether there is such an object that starts so.
func mayStart(object, start int) bool {
	switch object {
	case adder, counter:
		return true
	case stack:
		return start == 0
	case latch:
		return start >= 0
	case onces:
		return 1 <= start && start <= most
	}
	return false
}

// outcome is what an object may do when it is asked: what it answers, and in which state it is then. An object that has no answer has no outcome.
type outcome[S comparable] struct {
	answer api.Answer
	then   S
}

func askAdder(sum int, x api.Event) []outcome[int] {
	added := outcome[int]{api.Answer{Value: sum}, sum + x.A}
	switch x.Op {
	case 1:
		return []outcome[int]{added}
	case 2:
		return []outcome[int]{added, {api.Answer{Value: -1}, sum}}
	}
	return nil
}

func askCounter(sum int, x api.Event) []outcome[int] {
	switch x.Op {
	case 1:
		return []outcome[int]{{api.Answer{}, sum + x.A%1000}}
	case 2:
		return []outcome[int]{{api.Answer{Value: sum}, sum}}
	}
	return nil
}

func askLatch(left int, x api.Event) []outcome[int] {
	switch {
	case x.Op == 1 && left == 0:
		return []outcome[int]{{api.Answer{Code: api.ErrLatchLow}, left}}
	case x.Op == 1:
		return []outcome[int]{{api.Answer{}, left - 1}}
	case x.Op == 2 && left == 0:
		return []outcome[int]{{api.Answer{}, left}}
	}
	return nil
}

// pile is what stands on a stack, as far down as the pops of its history reach. What lies deeper is never told, and many an order of pushes differs by it alone: all these are tried as one. (It holds no more numbers than there are pushes, nor than pops, so half of the events are room enough.)
type pile struct {
	top  [api.MaxHistory / 2]int // from the top down
	many int
	deep bool // something lies deeper
}

// push puts a number on top of a pile whose pops reach so far.
func (p pile) push(v, reach int) pile {
	copy(p.top[1:], p.top[:])
	p.top[0] = v
	if p.many == reach {
		clear(p.top[reach:])
		p.deep = true
		return p
	}
	p.many++
	return p
}

// pop takes what stands on top.
func (p pile) pop() pile {
	p.many--
	copy(p.top[:], p.top[1:])
	p.top[p.many] = 0
	return p
}

// stackOf is the stack that a history is of.
func stackOf(l []api.Event) func(p pile, x api.Event) []outcome[pile] {
	reach := 0
	for _, x := range l {
		if x.Op == 2 && (!over(x) || x.Answer.Code == api.OK) {
			reach++
		}
	}
	return func(p pile, x api.Event) []outcome[pile] {
		switch {
		case x.Op == 1:
			return []outcome[pile]{{api.Answer{}, p.push(x.A, reach)}, {api.Answer{Code: api.ErrSlotsFull}, p}}
		case x.Op == 2 && p.many > 0:
			return []outcome[pile]{{api.Answer{Value: p.top[0]}, p.pop()}}
		case x.Op == 2 && !p.deep: // where something lies deeper all pops that reach are done
			return []outcome[pile]{{api.Answer{Code: api.ErrStackEmpty}, p}}
		}
		return nil
	}
}

// shelf is what each of the onces that a history asks has answered, if it has.
type shelf [api.MaxHistory]struct {
	has    bool
	answer api.Answer
}

// oncesOf is so many onces, of which only those that a history asks are kept: each has a place on the shelf.
func oncesOf(many int, l []api.Event) func(s shelf, x api.Event) []outcome[shelf] {
	places := map[int]int{}
	for _, x := range l {
		if _, has := places[modulo(x.A, many)]; !has {
			places[modulo(x.A, many)] = len(places)
		}
	}
	return func(s shelf, x api.Event) []outcome[shelf] {
		gives, has := act(x)
		if !has {
			return nil
		}
		once := &s[places[modulo(x.A, many)]]
		if !once.has {
			once.has, once.answer = true, gives
		}
		return []outcome[shelf]{{once.answer, s}}
	}
}

// act is what a once that has no answer yet answers, if the Op is one of its own.
func act(x api.Event) (api.Answer, bool) {
	switch x.Op {
	case 1:
		return api.Answer{Value: x.B}, true
	case 2:
		return api.Answer{Code: api.ErrOnceFail, Value: x.B}, true
	case 3:
		return api.Answer{Code: api.ErrOncePanic, Value: x.B}, true
	case 4:
		return api.Answer{Code: api.ErrOnceFail, Value: again}, true
	}
	return api.Answer{}, false
}

// modulo is Euclid's.
func modulo(a, many int) int {
	a %= many
	if a < 0 {
		a += many
	}
	return a
}
