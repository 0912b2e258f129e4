package trial

import "butler/api"

// SmallPlays are Plays of trees of scopes, still to be played, by two and three threads that get into each other's way.
func SmallPlays() []Played {
	ask := func(scope, key int) api.Call { return api.Call{Op: 1, A: scope, B: key} }
	open := func(scope int) api.Call { return api.Call{Op: 2, A: scope} }
	shut := func(scope int) api.Call { return api.Call{Op: 3, A: scope} }
	gives := func(level, v int, needs ...int) api.Recipe { return api.Recipe{Level: level, Value: v, Needs: needs} }
	ending := func(r api.Recipe, end int) api.Recipe {
		r.End = end
		return r
	}
	type recipes = []api.Recipe
	type script = []api.Call
	plain, fails, panics := recipes{gives(0, 1), gives(1, 2, 0)}, recipes{{Value: 1, Act: 1}, gives(1, 2, 0)}, recipes{{Value: 1, Act: 2}, gives(0, 2, 0)}
	two, three := recipes{gives(0, 1, 1), gives(0, 1, 0)}, recipes{gives(0, 1, 1), gives(0, 1, 2), gives(0, 1, 0)}
	ends := recipes{ending(gives(0, 1), 1), ending(gives(0, 2, 0), 2), gives(0, 3, 1)}
	inner := recipes{ending(gives(0, 1), 1), ending(gives(1, 2, 0), 2), gives(1, 3, 1, 1)}
	return []Played{
		{Recipes: plain, Scripts: []script{{shut(0)}, {shut(0)}}},                                           // two close
		{Recipes: ends, Scripts: []script{{ask(0, 2), shut(0)}, {shut(0), ask(0, 2)}}},                      // closings that fail and panic
		{Recipes: ends, Scripts: []script{{ask(0, 1), shut(0)}, {ask(0, 0), shut(0)}, {shut(0), shut(0)}}},  // three close
		{Recipes: plain, Scripts: []script{{open(0), ask(1, 1)}, {shut(0)}}},                                // the parent is closed under a kid's Ask
		{Recipes: inner, Scripts: []script{{open(0), ask(1, 2), shut(1)}, {shut(0)}, {ask(1, 1), shut(1)}}}, // kid and parent are closed at one time
		{Recipes: plain, Scripts: []script{{open(0), ask(1, 0)}, {ask(0, 0), shut(0)}}},                     // who waits for a builder in an ancestor
		{Recipes: plain, Scripts: []script{{open(0), ask(1, 1)}, {open(0), ask(2, 1), ask(1, 1)}}},          // two kids
		{Recipes: plain, Scripts: []script{{open(0), open(1), shut(2)}, {open(1), shut(1)}, {shut(0)}}},     // kids of kids
		{Recipes: plain, Scripts: []script{{open(0)}, {ask(1, 1), open(1), shut(1)}}},                       // a scope that is not ready yet
		{Recipes: two, Scripts: []script{{ask(0, 0), ask(0, 1)}, {ask(0, 1), ask(0, 0)}}},                   // a ring of two
		{Recipes: two, Scripts: []script{{open(0), ask(1, 0)}, {ask(0, 1), shut(0)}}},                       // from two scopes
		{Recipes: three, Scripts: []script{{ask(0, 0)}, {ask(0, 1)}, {ask(0, 2)}}},                          // a ring of three
		{Recipes: three, Scripts: []script{{ask(0, 0), shut(0)}, {ask(0, 2), ask(0, 1)}}},                   // which is closed behind it
		{Recipes: fails, Scripts: []script{{open(0), ask(1, 1)}, {ask(0, 0), ask(1, 1)}}},                   // what is needed fails
		{Recipes: panics, Scripts: []script{{ask(0, 1), shut(0)}, {ask(0, 0), ask(0, 1)}}},                  // or panics
	}
}
