package counter

import "butler/turn"

// Aged is a counter with a shard for each of these words, which stand there: it would take too long to come to a great VERSION by changes.
func Aged(w *turn.World, words ...int) *Counter {
	c, t := New(w, len(words)), turn.Free(0)
	for i, v := range words {
		c.shards[i].Store(t, v)
	}
	return c
}
