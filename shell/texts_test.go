package shell_test

import (
	"slices"
	"strconv"
	"strings"
	"testing"

	"butler/api"
	"butler/shell"
	"butler/trial"
)

// recipeLine is the line that adds a recipe.
func recipeLine(x api.Recipe) string {
	return numbers("key", append([]int{x.Level, x.Act, x.Value, x.End}, x.Needs...)...)
}

// scriptLines are the lines that add scripts.
func scriptLines(scripts [][]api.Call) []string {
	var out []string
	for _, calls := range scripts {
		out = append(out, "thread")
		for _, c := range calls {
			out = append(out, numbers("call", c.Op, c.A, c.B, c.C))
		}
	}
	return out
}

// smallNumber is one of those that lines mostly have.
func smallNumber(r *trial.Row) int { return r.One(0, 0, 1, 1, 2, 3, 5, -1) }

// someScripts are of few threads and calls, of few Ops, mostly; some are at the limits, or above.
func someScripts(r *trial.Row) [][]api.Call {
	out := make([][]api.Call, r.One(1, 1, 2, 2, 3, 4, 8, 9))
	most, ops := r.One(1, 2, 3, 5, 8), r.One(2, 3, 4, 7)
	for i := range out {
		for range r.Below(most + 1) {
			out[i] = append(out[i], api.Call{Op: 1 + r.Below(ops), A: smallNumber(r), B: smallNumber(r), C: smallNumber(r)})
		}
		if r.Below(60) == 0 {
			out[i] = append(out[i], make([]api.Call, r.One(62, 64, 65))...)
		}
	}
	return out
}

// playLine is one of the Plays, mostly with a number that may be.
func playLine(r *trial.Row) string {
	l := forms()[8:19]
	f := l[r.Below(len(l))]
	if f.most == 0 {
		return f.words
	}
	n := r.One(1, 1, 1, 2, 3, 4, 0, -1, 16, 17, 100, 101, 1000, 1001)
	if f.most > 0 {
		return numbers(f.words, n)
	}
	many := r.Below(4)
	return numbers(f.words, []int{n, smallNumber(r), smallNumber(r)}[:min(many, 3)]...)
}

// askLine asks for what was played, or for what recipes come to.
func askLine(r *trial.Row) string {
	switch r.Below(6) {
	case 0:
		return "trace"
	case 1:
		return "rings"
	case 2:
		return numbers("fate", r.Below(9)-1)
	case 3:
		return numbers("order", slices.Repeat([]int{r.Below(7), r.Below(9) - 1, r.Below(3)}, 2)[:r.Below(6)]...)
	}
	return numbers("linear", r.One(1, 2, 3, 4, 5, r.Below(8)-1), r.One(0, 0, 1, 1, 2, -1))
}

// someLines are lines that mostly tell something else than an error.
func someLines(r *trial.Row) []string {
	var out []string
	for range r.Below(5) {
		switch r.Below(8) {
		case 0, 1:
			for _, x := range r.FlatRecipes(r.One(1, 2, 4, 7)) {
				out = append(out, recipeLine(x))
			}
		case 2:
			for range r.Below(4) {
				out = append(out, numbers("key", r.Below(3), r.Below(4), r.Below(100), r.Below(3), r.Below(4))) // they may not be right
			}
		case 3, 4, 5:
			out = append(out, scriptLines(someScripts(r))...)
		case 6:
			out = append(out, numbers("turns", slices.Repeat([]int{r.Below(3), r.Below(5), -r.Below(3)}, 20)[:r.Below(60)]...))
		case 7:
			out = append(out, "clear")
		}
		for range r.Below(3) {
			out = append(out, playLine(r))
			for range r.Below(4) {
				out = append(out, askLine(r))
			}
		}
	}
	return out
}

// oddWords are words of all kinds: those of lines, numbers, and none.
func oddWords() []string {
	return []string{"key", "thread", "call", "turns", "clear", "rings", "fate", "order", "play", "house", "box", "gate", "lock", "latch", "once", "slots", "stack", "counter", "chain", "cell", "trace", "linear",
		"0", "1", "-1", "2", "9", "007", "-0", "999999999", "1000000000", "0000000000", "-", "--1", "+1", "1.5", "x", "Play", "#", "#x", "\x01", "\r", "é", "\xff", "\u2003", "1\x00"}
}

// spoil makes something else of a line: a word more, a word fewer, another word, other blanks, other bytes.
func spoil(r *trial.Row, line string) string {
	words := strings.Fields(line)
	at := r.Below(len(words) + 1)
	odd := oddWords()[r.Below(len(oddWords()))]
	switch r.Below(7) {
	case 0:
		words = slices.Insert(words, at, odd)
	case 1:
		words = slices.Delete(words, min(at, max(len(words)-1, 0)), min(at+1, len(words)))
	case 2:
		words = append(words[:at], odd)
	case 3:
		return strings.Join(words, " ") + odd
	case 4:
		return strings.ToUpper(line)
	case 5:
		return "\t " + strings.Join(words, []string{"\t", "  ", " \t ", "\n", "\v", "\u00a0"}[r.Below(6)]) + " "
	case 6:
		at := r.Below(len(line) + 1)
		return line[:at] + string([]byte{byte(r.Below(256))}) + line[at:]
	}
	return strings.Join(words, " ")
}

// someText is a text; of ten lines so many are spoilt, and some tell nothing.
func someText(r *trial.Row, spoilt int) string {
	out := someLines(r)
	for i, line := range out {
		if r.Below(10) < spoilt {
			out[i] = spoil(r, line)
		}
		if r.Below(12) == 0 {
			out[i] += "\n" + silent()[r.Below(len(silent()))]
		}
	}
	return strings.Join(out, "\n") + []string{"", "\n", "\n\n"}[r.Below(3)]
}

// tells asks for what the model says of a text.
func tells(t *testing.T, text string) string {
	t.Helper()
	got, want := shell.Do(text), modelTells(text)
	if got != want {
		t.Fatalf("%q tells\n%s\nand not\n%s", text, got, want)
	}
	return got
}

// kinds counts the lines that were told, by their first words; those that begin with a number as one kind.
type kinds map[string]int

// least is how often that of these kinds was told which was told least.
func (k kinds) least(l ...string) int {
	out := k[l[0]]
	for _, x := range l {
		out = min(out, k[x])
	}
	return out
}

func (k kinds) of(told string) {
	for line := range strings.Lines(told) {
		words := strings.Fields(line)
		if _, err := strconv.Atoi(words[0]); err == nil {
			words = []string{"numbers"}
		}
		if words[0] == "error" {
			words[0] += " " + words[1]
		}
		k[words[0]]++
	}
}

// many texts of lines that may be
func TestTexts(t *testing.T) {
	r, k := trial.Row(1), kinds{}
	for range 6000 {
		k.of(tells(t, someText(&r, 0)))
	}
	if k.least("ok", "stuck", "none", "yes", "no", "numbers", "error 1", "error 2", "error 3", "error 110", "error 170") < 200 {
		t.Errorf("the texts are too tame: %v", k)
	}
	if len(k) != 11 {
		t.Errorf("something else was told: %v", k)
	}
}

// many texts with lines that are none among them
func TestSpoiltTexts(t *testing.T) {
	r, k := trial.Row(2), kinds{}
	for i := range 6000 {
		k.of(tells(t, someText(&r, i%10)))
	}
	if k.least("error 170", "ok", "none", "numbers") < 1000 {
		t.Errorf("the texts are too tame: %v", k)
	}
}

// words put together as it comes
func TestOddTexts(t *testing.T) {
	r, k := trial.Row(3), kinds{}
	for range 20000 {
		var text strings.Builder
		for range r.Below(30) {
			text.WriteString(oddWords()[r.Below(len(oddWords()))])
			text.WriteString([]string{" ", " ", "\t", "\n", "\n", ""}[r.Below(6)])
		}
		k.of(tells(t, text.String()))
	}
	if k.least("error 170", "ok", "none", "no", "error 1") < 30 {
		t.Errorf("the texts are too tame: %v", k)
	}
}

// W1: Do answers, whatever bytes it is given
func TestAnyBytes(t *testing.T) {
	r := trial.Row(4)
	for i := range 3000 {
		text := make([]byte, r.Below(200))
		for at := range text {
			if text[at] = byte(r.Below(256)); i%2 == 0 {
				text[at] = "\n\n \t#-0123456789acdehklorstyp\x00\xff"[r.Below(31)]
			}
		}
		tells(t, string(text))
	}
	for b := range 256 {
		tells(t, string([]byte{byte(b)}))
		tells(t, strings.Repeat(string([]byte{byte(b)}), api.MaxLine))
	}
}

// Plays of the layers' own scripts, at many schedules, each told again by its trace and held against all objects
func TestPlayTexts(t *testing.T) {
	r, k := trial.Row(5), kinds{}
	for i := range 3000 {
		var out []string
		l := r.FlatRecipes(r.One(1, 3, 7))
		for _, x := range l {
			out = append(out, recipeLine(x))
		}
		out = append(out, scriptLines(r.TreeScripts(len(l), 4, 4, r.One(4, 5, 6, 7), r.One(1, 2, 3)))...)
		for n, line := range out {
			for _, word := range strings.Fields(line) { // numbers of more than nine digits
				if len(word) > 10 {
					out[n] = strings.ReplaceAll(line, word, word[:9])
				}
			}
		}
		for range r.Below(50) {
			out = append(out, numbers("turns", r.Below(4)))
		}
		play := []string{"play house", "play box", "play gate", "play lock", "play latch 3", "play once 2", "play slots 2", "play stack 2", "play counter 2", "play chain 2", "play cell 0 1 -1"}[i%11]
		out = append(out, play, "trace")
		for object := range 7 {
			out = append(out, numbers("linear", object, []int{0, 0, 0, 0, 3, 2, 0}[object]))
		}
		k.of(tells(t, strings.Join(out, "\n")))
	}
	if k.least("yes", "no", "error 1", "error 3", "stuck") < 200 {
		t.Errorf("too tame: %v", k)
	}
}

// W2, W6: a text tells the same another time, and while other texts are carried out
func TestSame(t *testing.T) {
	r := trial.Row(6)
	texts, told := make([]string, 200), make([]string, 200)
	for i := range texts {
		texts[i] = someText(&r, 2)
		told[i] = shell.Do(texts[i])
	}
	wrong := make(chan string)
	for worker := range 8 {
		go func() {
			for i := range texts {
				at := (i + 25*worker) % len(texts)
				if got := shell.Do(texts[at]); got != told[at] {
					wrong <- texts[at]
				}
			}
			wrong <- ""
		}()
	}
	for ended := 0; ended < 8; {
		if text := <-wrong; text != "" {
			t.Errorf("another time otherwise: %q", text)
		} else {
			ended++
		}
	}
}

// FuzzDo holds any text against the model.
func FuzzDo(f *testing.F) {
	r := trial.Row(7)
	for range 50 {
		f.Add(someText(&r, 3))
	}
	f.Fuzz(func(t *testing.T, text string) { tells(t, text) })
}
