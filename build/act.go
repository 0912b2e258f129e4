package build

import "butler/api"

// The acts of recipes.
const (
	actGives  = 0
	actFails  = 1
	actPanics = 2
)

// modulus: what a key gives is told modulo this.
const modulus = 1000003

// ready is a key all of whose needs are built: its own Value, and what they give together.
type ready struct{ value, needs int }

// row is an act, and what it does with a key that is ready.
type row struct {
	act  int
	does func(r ready) api.Answer
}

func rows() []row {
	return []row{
		{actGives, ready.gives},
		{actFails, ready.fails},
		{actPanics, ready.panics},
	}
}

func (r ready) gives() api.Answer {
	sum := r.value + r.needs
	return api.Answer{Value: (sum%modulus + modulus) % modulus}
}

func (r ready) fails() api.Answer {
	return api.Answer{Code: api.ErrOnceFail, Value: r.value}
}

func (r ready) panics() api.Answer { panic(r.value) }

// comesTo is what an act comes to; also if it panics, or all who wait for the key would wait for ever.
func (r ready) comesTo(act int) (came api.Answer) {
	defer func() {
		if recover() != nil {
			came = api.Answer{Code: api.ErrOncePanic, Value: r.value}
		}
	}()
	for _, x := range rows() {
		if x.act == act {
			return x.does(r)
		}
	}
	return api.Answer{Code: api.ErrArg} // recipes that are right have no such act
}
