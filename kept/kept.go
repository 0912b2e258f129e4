// Package kept is what several layers have in common: an answer that is worked out by the first thread which comes, and kept for all others (the WORD and VALUE of doc/07-once.md, which other chapters take over).
package kept

import (
	"butler/api"
	"butler/cell"
	"butler/turn"
	"butler/word"
)

// How far an answer is.
const (
	stateNew   = 0
	stateGoing = 1
	stateDone  = 2
)

// The fields of a WORD.
var (
	fieldState = api.Field{At: 0, Bits: 2}
	fieldWho   = api.Field{At: 2, Bits: 8}
	fieldCode  = api.Field{At: 10, Bits: 20}
)

// Kept is such an answer.
type Kept struct {
	word  *cell.Cell // how far it is, who works it out, and its code
	value *cell.Cell // any int, for which a field would be too small; it is read only where the word says that it is done
}

// New is one that nobody has begun to work out.
func New(w *turn.World) *Kept {
	k := &Kept{}
	k.word = cell.New(w, 0)
	k.value = cell.New(w, 0)
	return k
}

// wordOf is the WORD with these. All of them fit: a thread's number is below 256, and codes are far below 2^20.
func wordOf(state, who int, code api.Errno) int {
	x, _ := word.Put(0, fieldWho, who)
	x, _ = word.Put(x, fieldCode, int(code))
	x, _ = word.Put(x, fieldState, state)
	return x
}

// Get is the answer; who comes first works it out, all others wait till that is done.
func (k *Kept) Get(t *turn.Thread, workOut func() api.Answer) api.Answer {
	for {
		v := k.word.Load(t)
		switch word.Get(v, fieldState) {
		case stateDone:
			return api.Answer{Code: api.Errno(word.Get(v, fieldCode)), Value: k.value.Load(t)}
		case stateNew:
			if k.word.Cas(t, v, wordOf(stateGoing, t.Id(), api.OK)) {
				return k.keep(t, workOut())
			}
		default:
			if word.Get(v, fieldWho) == t.Id() {
				return api.Answer{Code: api.ErrOnceAgain}
			}
			if !t.Await(k.word.Id()) {
				return api.Answer{Code: api.ErrStuck}
			}
		}
	}
}

// keep makes the value known ahead of the word, since who finds that it is done reads the value at once. That somebody was stuck is no answer: it is told to who worked it out alone.
func (k *Kept) keep(t *turn.Thread, x api.Answer) api.Answer {
	if x.Code == api.ErrStuck {
		return x
	}
	k.value.Store(t, x.Value)
	k.word.Store(t, wordOf(stateDone, 0, x.Code))
	return x
}
