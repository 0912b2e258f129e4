package shell_test

import (
	"slices"
	"strconv"
	"strings"
	"testing"

	"butler/api"
	"butler/shell"
)

// lines is a text in which `/` stands for a byte 10.
func lines(s string) string { return strings.ReplaceAll(s, "/", "\n") }

// wants asks for what a text tells, both with `/` for a byte 10.
func wants(t *testing.T, text, want string) {
	t.Helper()
	if got := shell.Do(lines(text)); got != lines(want) {
		t.Errorf("%q tells %q, and not %q", text, got, lines(want))
	}
}

// wantsAll asks for what each of some texts tells: these stand in rows, a text and what it tells.
func wantsAll(t *testing.T, rows ...[2]string) {
	t.Helper()
	for _, x := range rows {
		wants(t, x[0], x[1])
	}
}

// numbered are a line's words and so many numbers.
func numbered(words string, many int) string {
	for n := range many {
		words = numbers(words, n)
	}
	return words
}

// numbers are a line's words and these numbers.
func numbers(words string, l ...int) string {
	for _, n := range l {
		words += " " + strconv.Itoa(n)
	}
	return words
}

// form is a line that may be: its words, and how many numbers stand behind them (most below 0: as many as one likes).
type form struct {
	words       string
	least, most int
}

// forms are all of them.
func forms() []form {
	return []form{
		{"key", 4, -1}, {"thread", 0, 0}, {"call", 1, 4}, {"turns", 0, -1}, {"clear", 0, 0},
		{"rings", 0, 0}, {"fate", 1, 1}, {"order", 0, -1},
		{"play house", 0, 0}, {"play box", 0, 0}, {"play gate", 0, 0}, {"play lock", 0, 0},
		{"play latch", 1, 1}, {"play once", 1, 1}, {"play slots", 1, 1}, {"play stack", 1, 1}, {"play counter", 1, 1}, {"play chain", 1, 1},
		{"play cell", 0, -1}, {"trace", 0, 0}, {"linear", 2, 2},
	}
}

// ready is a text behind which none of the forms is refused for want of something that it stands on; and what it tells.
const (
	ready     = "key 0 0 5 0/thread/call 1/play lock/"
	readyTold = "ok/ok/ok/ok/0 0/"
)

// the chapter's examples
func TestExamples(t *testing.T) {
	wantsAll(t, [][2]string{
		{"", ""}, {"# x/", ""}, {"trace", "error 170/"},
		{"key 0 0 5 0/key 1 0 7 1 0/rings/fate 1/fate 9/order 1 0/order", "ok/ok/none/yes 12/no/0 1/none/"},
		{"thread/call 1/call 2/call 3/play gate", "ok/ok/ok/ok/ok/0 0, 0 0, 0 1/"},
		{"key 0 0 5 0/thread/call 1 0 0/call 9/thread/play house", "ok/ok/ok/ok/ok/ok/0 5, 1 0/none/"},
		{"thread/call 1/play latch 1/linear 4 1/trace", "ok/ok/ok/0 0/yes/0 -1 9 0 0/0 0 1 1 1/0 0 4 1 0/0 -1 10 0 0/"},
		{"thread/call 2/play latch 1", "ok/ok/stuck/4 0/"},
		{"thread/play chain 0/play box/play house 1/play cell/call 1 2 3 4 5/turns 1 -1/turns x", "ok/error 1/error 110/error 170/error 1/error 170/ok/error 170/"},
		{"call 1/thread/call/thread 1/key 0 0 5/fate", "error 170/ok/error 170/error 170/error 170/error 170/"},
	}...)
}

// the document's ten examples of the whole
func TestWhole(t *testing.T) {
	wantsAll(t, [][2]string{
		{"key 0 0 5 0/key 0 0 7 0 0/thread/call 1 0 1/call 1 0 0/play house", "ok/ok/ok/ok/ok/ok/0 12, 0 5/"},
		{"key 0 0 5 0/thread/call 1 0 0/thread/call 1 0 0/turns 1 1 1 1 1 1/play box/rings/fate 0", "ok/ok/ok/ok/ok/ok/ok/0 5/0 5/none/yes 5/"},
		{"key 0 0 1 0 1/key 0 0 1 0 0/thread/call 1 0/thread/call 1 1/play box/rings", "ok/ok/ok/ok/ok/ok/ok/130 1/130 0/0 1/"},
		{"key 0 1 9 0/key 0 0 7 0 0/thread/call 1 1/call 1 0/play box", "ok/ok/ok/ok/ok/ok/131 0, 70 9/"},
		{"key 0 2 -3 0/thread/call 1 0/call 1 0/play box/fate 0", "ok/ok/ok/ok/ok/71 -3, 71 -3/no/"},
		{"key 0 0 5 0/key 1 0 7 1 0/thread/call 2 0/call 1 1 1/call 3 0/call 1 0 0/play house", "ok/ok/ok/ok/ok/ok/ok/ok/0 1, 0 12, 0 0, 140 0/"},
		{"thread/call 5 0 1/thread/call 5 0 1/turns 1/play cell 0/trace", "ok/ok/ok/ok/ok/ok/0 2/0 1/0 -1 9 0 0/1 -1 9 0 0/1 0 5 0 1/1 -1 10 0 0/0 0 5 1 2/0 -1 10 0 0/"},
		{"thread/call 2/play latch 1/clear/thread/call 1/call 2/play latch 1", "ok/ok/stuck/4 0/ok/ok/ok/ok/ok/0 0, 0 0/"},
		{"thread/call 1 7/call 2/thread/call 2/call 1 8/turns 1 1/play stack 2/linear 2 0", "ok/ok/ok/ok/ok/ok/ok/ok/0 0, 0 7/90 0, 0 0/yes/"},
		{"thread/call 2 0 4/call 1 0 8/play once 1/call 9/play once 0", "ok/ok/ok/ok/70 4, 70 4/ok/error 1/"},
	}...)
}

// P17.1

// a text of MaxLine bytes is carried out to its end, one of more is told to be too long, and nothing else
func TestLong(t *testing.T) {
	for _, x := range []struct{ line, told string }{
		{"", ""}, {" ", ""}, {"#", ""}, {"thread", "ok\n"}, {"x", "error 170\n"}, {"\x01", "error 170\n"}, {"\xff", "error 170\n"}, {"é", "error 170\n"},
	} {
		many := api.MaxLine / (len(x.line) + 1)
		text := strings.Repeat(x.line+"\n", many)
		text += strings.Repeat("\n", api.MaxLine-len(text))
		if got := shell.Do(text); got != strings.Repeat(x.told, many) {
			t.Errorf("%d bytes of lines %q are told as %d bytes", len(text), x.line, len(got))
		}
		for _, more := range []string{"\n", " ", "#", "x", "\x01", strings.Repeat("\n", api.MaxLine)} {
			if got := shell.Do(text + more); got != "error 2\n" {
				t.Errorf("%d bytes of lines %q, and %q: %d bytes are told", len(text), x.line, more[:1], len(got))
			}
		}
	}
	for _, x := range []struct{ first, each, told string }{ // one line
		{"", "#", ""}, {"", " ", ""}, {"", "\t", ""}, {"", "thread", "error 170\n"}, {"thread", " ", "ok\n"}, {"turns", " 1", "ok\n"}, {"#", "é", ""}, {"#", "\x00", "error 170\n"},
	} {
		text := x.first + strings.Repeat(x.each, api.MaxLine+1)
		if got := shell.Do(text[:api.MaxLine]); got != x.told {
			t.Errorf("a line of %q and many %q: %.20q", x.first, x.each, got)
		}
		if got := shell.Do(text[:api.MaxLine+1]); got != "error 2\n" {
			t.Errorf("a line of %q and too many %q: %.20q", x.first, x.each, got)
		}
	}
}

// what counts are bytes, not runes, nor lines
func TestLongInBytes(t *testing.T) {
	comment := "#" + strings.Repeat("é", (api.MaxLine-1)/2)
	for many, want := range map[int]string{api.MaxLine - len(comment): "", api.MaxLine - len(comment) + 1: "error 2\n"} {
		if got := shell.Do(comment + strings.Repeat(" ", many)); got != want {
			t.Errorf("%d bytes behind %d: %q", many, len(comment), got)
		}
	}
}

// a line ends at a byte 10, or with the text; each line that is told has a byte 10 behind
func TestLines(t *testing.T) {
	wantsAll(t, [][2]string{
		{"thread", "ok/"}, {"thread/", "ok/"}, {"thread//", "ok/"}, {"/thread", "ok/"}, {"//thread///thread", "ok/ok/"},
		{"thread thread", "error 170/"}, {"thread;thread", "error 170/"}, {"th/read", "error 170/error 170/"}, {"turns 1/2", "ok/error 170/"}, {"play/lock", "error 170/error 170/"},
		{"thread\r/thread", "error 170/ok/"}, {"thread\x0bthread", "error 170/"}, {"thread\u0085thread", "error 170/"}, {"thread\u2028thread", "error 170/"},
	}...)
}

// words stand apart by any blanks and tabs, by nothing else, and these may stand ahead and behind, too
func TestBlanks(t *testing.T) {
	for _, x := range []string{"play stack 1", " play stack 1", "play  stack   1", "\tplay\tstack\t1\t", " \t play \t\t stack\t 1 \t ", "play stack 1 "} {
		wants(t, "thread/call 1 7/"+x, "ok/ok/ok/0 0/")
	}
	for _, x := range []string{"playstack 1", "play stack1", "play,stack,1", "play\u00a0stack 1", "play stack\u00a01", "play\u3000stack 1", "play stack 1\u00a0", "play stack 1\u2003", "\ufeffplay stack 1"} {
		wants(t, "thread/call 1 7/"+x, "ok/ok/error 170/")
	}
}

// lines without words, and those whose first word begins with #, tell nothing
func TestSilent(t *testing.T) {
	for _, x := range silent() {
		wants(t, x, "")
		wants(t, "thread/"+x+"/call 1 7/"+x+"/play lock/"+x, "ok/ok/ok/0 0/")
	}
	for _, x := range []string{"thread #", "thread # x", "turns 1 # 2", "turns #", "play # stack 1", "x #", "- #", "/#/thread # /#"} {
		wants(t, x, "error 170/")
	}
}

// silent are lines that tell nothing.
func silent() []string {
	return []string{"", " ", "\t", " \t  \t", "#", "# ", "#x", "# x", "##", "#thread", "# thread", "\t# thread", "  #\tplay lock", "#\x7f", "#\xff\xfe", "# é\u2028", "#\u0085", "# 1 # 2"}
}

// a byte below 32 but 9 may not be in any line: where it is one that would tell nothing, too
func TestBytes(t *testing.T) {
	for b := range 256 {
		if b == '\n' || b == ' ' || b == '\t' || b == '#' {
			continue
		}
		wrong, in := b < ' ', string([]byte{byte(b)})
		quiet := ""
		if wrong {
			quiet = "error 170/"
		}
		for _, x := range []string{"#" + in, "# " + in, "# x" + in + "y", "#" + in + "#", " \t#\t" + in + " "} {
			if got := shell.Do(x); got != lines(quiet) {
				t.Errorf("%q tells %q", x, got)
			}
		}
		for _, x := range []string{in, " " + in, in + "\t", in + "#", in + "# thread", in + "thread", "thread" + in, "th" + in + "read", "thread " + in, in + " thread", "turns 1" + in + "x", "turns x" + in} {
			if got := shell.Do(x + "\nplay lock"); got != "error 170\nerror 1\n" { // error 1: there is no script
				t.Errorf("%q tells %q", x, got)
			}
		}
	}
	wantsAll(t, [][2]string{
		{"\x01", "error 170/"}, {"#\x00", "error 170/"}, {"# x\r/#/\r/ \x1f", "error 170/error 170/error 170/"}, {"#\x09/#\x20/#\x21/#\x7f/#\x80", ""}, {"thread\r/play lock", "error 170/error 1/"},
	}...)
}

// P17.2: which lines there are

// each line with as many numbers as it may have, and fewer, and more
func TestForms(t *testing.T) {
	for _, f := range forms() {
		for many := range 12 {
			line := numbered(f.words, many)
			got := strings.TrimPrefix(shell.Do(lines(ready+line)), lines(readyTold))
			if may := f.least <= many && (many <= f.most || f.most < 0); (got != "error 170\n") != may {
				t.Errorf("%q: %q", line, got)
			}
		}
	}
}

// a line's words stand as they are: in capitals, cut off, more of them, or others, they are none; and such a line does nothing
func TestWords(t *testing.T) {
	for _, f := range forms() {
		fine := strings.Fields(numbered(f.words, f.least))
		words := len(strings.Fields(f.words))
		wrong := [][]string{append(slices.Clone(fine), "x"), append([]string{"x"}, fine...), append(slices.Clone(fine), fine...), append([]string{"0"}, fine...), append(slices.Clone(fine), "#"), append(slices.Clone(fine), "-")}
		for i, word := range fine[:words] {
			for _, other := range []string{strings.ToUpper(word), strings.ToUpper(word[:1]) + word[1:], word[:len(word)-1], word + "s", word + ".", "x" + word, word + "-", "-" + word, `"` + word + `"`, word + "\xff", word + "\u0301", "x", "-", "1"} {
				l := slices.Clone(fine)
				l[i] = other
				wrong = append(wrong, l)
			}
			if len(fine) > 1 {
				wrong = append(wrong, slices.Delete(slices.Clone(fine), i, i+1))
			}
			wrong = append(wrong, slices.Insert(slices.Clone(fine), i+1, "x"), slices.Insert(slices.Clone(fine), i+1, word), slices.Insert(slices.Clone(fine), i, "x"))
		}
		for _, l := range wrong {
			line := strings.Join(l, " ")
			got := shell.Do(lines(ready + line + "/trace/play lock/trace/rings/fate 0"))
			if want := lines(readyTold + "error 170/" + afterReady); got != want {
				t.Errorf("%q: %q, and not %q", line, got, want)
			}
		}
	}
}

// afterReady is what tells that nothing has been changed behind ready.
const (
	lockTrace  = "0 -1 9 0 0/0 0 5 0 1/0 1 1 0 0/0 2 1 0 0/0 2 2 0 0/0 1 5 0 1/0 -1 10 0 0/"
	afterReady = lockTrace + "ok/0 0/" + lockTrace + "none/yes 5/"
)

// a line that is none does nothing, not with those of its words that may be
func TestNothingElse(t *testing.T) {
	wantsAll(t, [][2]string{
		{"turns 1 1 1 x/thread/call 5 0 1/thread/call 5 0 1/play cell 0", "error 170/ok/ok/ok/ok/ok/0 1/0 2/"},
		{"turns 1 1 1 \x01/thread/call 5 0 1/thread/call 5 0 1/play cell 0", "error 170/ok/ok/ok/ok/ok/0 1/0 2/"},
		{"key 0 0 1 0 x/fate 0/key 0 0 1/fate 0/key 0 0 1 0 0000000000/fate 0", "error 170/no/error 170/no/error 170/no/"},
		{"thread 1/play lock/thread/play lock", "error 170/error 1/ok/ok/none/"},
		{"thread/call 1 2 3 4 5/call x/call/call 1 \x02/play lock", "ok/error 170/error 170/error 170/error 170/ok/none/"},
		{"thread/call 1 5/clear 1/clear x/clear clear/clear\x0d/play lock", "ok/ok/error 170/error 170/error 170/error 170/ok/0 0/"},
		{"thread/play lock x/trace/play lock 1/trace/play latch/trace/play latch 1 1/trace", "ok/error 170/error 170/error 170/error 170/error 170/error 170/error 170/error 170/"},
	}...)
}

// what a number is, and what it tells
func TestNumbers(t *testing.T) {
	for word, value := range map[string]string{
		"0": "0", "7": "7", "-1": "-1", "-0": "0", "00": "0", "007": "7", "-007": "-7", "000000000": "0", "-000000000": "0", "000000001": "1",
		"123456789": "123456789", "-123456789": "-123456789", "999999999": "999999999", "-999999999": "-999999999", "010": "10", "08": "8", "-09": "-9",
	} {
		wants(t, "turns "+word, "ok/")
		wants(t, "thread/call 1/play cell "+word, "ok/ok/ok/0 "+value+"/")
		wants(t, "thread/call 3 0 "+word+"/call 1/play cell 5", "ok/ok/ok/ok/0 5, 0 "+value+"/")
	}
	for _, word := range []string{
		"1000000000", "-1000000000", "0000000000", "-0000000000", "0000000001", "99999999999999999999999", "-", "--", "--1", "-1-", "1-", "1-1", "- 1", "+1", "+", "+-1", "-+1", "1.", "1.0", ".5", "1e3", "0x1", "0b1", "0o7", "1_0", "1,", "1,2", "a", "1a", "a1",
		"١", "１", "-１", "²", "1\u0301", "−1", "–1", "1\xff", "\xff1", "1\x7f", "nil", "NaN", "Inf", "infinity", "true",
	} {
		wants(t, "turns "+word, "error 170/")
		wants(t, "turns 1 "+word+" 2", "error 170/")
		wants(t, "fate "+word, "error 170/")
	}
}

// P17.2: what each line does

func TestKey(t *testing.T) {
	wantsAll(t, [][2]string{
		{"key 0 0 5 0/fate 0/fate 1/fate -1", "ok/yes 5/no/no/"},
		{"key 0 0 -5 0/fate 0", "ok/yes 999998/"},
		{"key 0 0 5 0/key 0 0 7 0 0 0/fate 1/order 1", "ok/ok/yes 17/0 1/"},
		{"key 1 2 3 0/key 2 0 1 1/thread/call 1 0 0/call 2 0/call 1 1 0/call 2 1/call 1 2 1/call 3 1/play house", "ok/ok/ok/ok/ok/ok/ok/ok/ok/ok/150 0, 0 1, 71 3, 0 2, 0 1, 0 0/"}, // the Level, the Act, the Value
		{"key 0 0 1 1/thread/call 1 0 0/call 3/play house", "ok/ok/ok/ok/ok/0 1, 70 0/"},                                                                                            // the End
		{"key 0 0 1 2/thread/call 1 0 0/call 3/play house", "ok/ok/ok/ok/ok/0 1, 71 0/"},
		{"key 0 1 8 0/thread/call 1 0/play box", "ok/ok/ok/ok/70 8/"},
		{"key 0 0 1 0 1/rings/fate 0/key 0 0 2 0/rings/fate 0", "ok/none/no/ok/none/yes 3/"}, // a need that comes later
		{"key 0 0 1001 0/rings/fate 0/order 0", "ok/none/no/none/"},                          // recipes that are not right
	}...)
	for _, x := range []string{"8 0 0 0", "-1 0 0 0", "0 3 0 0", "0 -1 0 0", "0 0 1001 0", "0 0 -1001 0", "0 0 0 3", "0 0 0 -1", "0 0 0 0 2", "0 0 0 0 -1", "1 0 0 0/key 0 0 0 0 1", "999999999 0 0 0", "0 0 -999999999 0"} {
		told := strings.Repeat("ok/", strings.Count(x, "key")+1)
		wants(t, "key 0 0 5 0/key "+x+"/fate 0/order 0/rings/thread/play box/play house", "ok/"+told+"no/none/none/ok/error 110/error 110/")
	}
	for _, x := range []struct {
		text string
		many int
		told string
	}{
		{strings.Repeat("key 0 0 1 0/", api.MaxKeys), api.MaxKeys, "ok/none/"},
		{strings.Repeat("key 0 0 1 0/", api.MaxKeys+1), api.MaxKeys + 1, "error 2/"},
		{"key 0 0 1 0/key 0 0 1 0" + strings.Repeat(" 0", api.MaxNeeds) + "/", 2, "ok/none/"},
		{"key 0 0 1 0/key 0 0 1 0" + strings.Repeat(" 0", api.MaxNeeds+1) + "/", 2, "error 2/"},
	} {
		wants(t, x.text+"thread/play house/play box", strings.Repeat("ok/", x.many+1)+x.told+x.told)
	}
}

func TestCall(t *testing.T) {
	wantsAll(t, [][2]string{
		{"call 1/call 1 2 3 4/thread/play lock", "error 170/error 170/ok/ok/none/"},
		{"thread/call 0/call -1/call 999999999/play lock", "ok/ok/ok/ok/ok/1 0, 1 0, 1 0/"},
		{"thread/call 4 0 0 9/call 1/play cell 0", "ok/ok/ok/ok/0 1, 0 9/"}, // A, B, C
		{"thread/call 4 0 5/call 1/play cell 5", "ok/ok/ok/ok/0 1, 0 0/"},   // C is 0
		{"thread/call 2 0/call 1/play cell 5", "ok/ok/ok/ok/0 0, 0 0/"},     // B, too
		{"thread/call 1/call 1 1/call 1 2/call 1 -1/play cell 5 6", "ok/ok/ok/ok/ok/ok/0 5, 0 6, 0 5, 0 6/"},
		{"thread/thread/call 5 0 1/thread/call 5 0 2/call 5 0 3/play cell 0", "ok/ok/ok/ok/ok/ok/ok/none/0 1/0 3, 0 6/"}, // the last script
		{"thread/call 1 5/play lock/thread/call 1 6/play lock", "ok/ok/ok/0 0/ok/ok/ok/0 0/0 5/"},                        // scripts stay behind a Play
	}...)
	for many, told := range map[int]string{api.MaxCalls - 1: "ok/", api.MaxCalls: "ok/", api.MaxCalls + 1: "error 2/", 2 * api.MaxCalls: "error 2/"} {
		if told == "ok/" {
			told += strings.TrimSuffix(strings.Repeat("1 0, ", many), ", ") + "/"
		}
		wants(t, "thread/"+strings.Repeat("call 7/", many)+"play gate", strings.Repeat("ok/", many+1)+told)
	}
}

func TestThread(t *testing.T) {
	for many := range 20 {
		told := "ok/" + strings.Repeat("none/", many)
		if many == 0 || many > api.MaxThreads {
			told = "error 1/"
		}
		wants(t, strings.Repeat("thread/", many)+"play gate", strings.Repeat("ok/", many)+told)
	}
	wants(t, strings.Repeat("thread/", 9)+strings.Repeat("call 1/", 65)+"play lock/play latch -1", strings.Repeat("ok/", 74)+"error 2/error 2/") // of the two ErrLong first
}

// the schedule's numbers stand one behind the other; each Play goes by all of them
func TestTurns(t *testing.T) {
	two := "thread/call 5 0 1/call 5 0 1/thread/call 5 0 1/call 5 0 1/"
	for _, x := range [][2]string{
		{"turns", "0 1, 0 3/0 2, 0 4/"}, {"turns 0", "0 1, 0 3/0 2, 0 4/"}, {"turns 1", "0 2, 0 4/0 1, 0 3/"}, {"turns 1 1", "0 3, 0 4/0 1, 0 2/"}, {"turns 1/turns 1", "0 3, 0 4/0 1, 0 2/"},
		{"turns 1/turns/turns 0 1", "0 2, 0 4/0 1, 0 3/"}, {"turns -1 999999999 -2", "0 3, 0 4/0 1, 0 2/"}, {"turns 0 0/turns 0 0", "0 1, 0 2/0 3, 0 4/"}, {"turns 0 1/turns 1 0", "0 1, 0 4/0 2, 0 3/"},
	} {
		oks := strings.Repeat("ok/", 7+strings.Count(x[0], "/"))
		wants(t, two+x[0]+"/play cell 0/play cell 0", oks+"ok/"+x[1]+"ok/"+x[1])
		wants(t, x[0]+"/"+two+"play cell 0", oks+"ok/"+x[1])
	}
	wants(t, two+"play cell 0/turns 1 1/play cell 0", strings.Repeat("ok/", 6)+"ok/0 1, 0 3/0 2, 0 4/ok/ok/0 3, 0 4/0 1, 0 2/")
}

func TestRecipeLines(t *testing.T) {
	six := "key 0 0 5 0/key 0 0 7 0 0 0/key 0 0 1 0 3/key 0 0 1 0 2 0/key 0 0 1 0 1 2/key 0 0 -6 0/" // chapter 11's
	told := strings.Repeat("ok/", 6)
	wantsAll(t, [][2]string{
		{"rings/fate 0/order 0/order", "none/no/none/none/"},
		{six + "rings", told + "2 3/"},
		{six + "fate 0/fate 1/fate 2/fate 4/fate 5/fate 9/fate -1/fate 999999999", told + "yes 5/yes 17/no/no/yes 999997/no/no/no/"},
		{six + "order 4 5 1/order 2 0 0 9/order 9 -1 -999999999/order/order 2", told + "0 1 5/0/none/none/none/"},
		{six + "order " + strings.Repeat("5 1 ", 1000), told + "5 0 1/"},
		{"key 0 0 5 0/order 0/rings/key 0 0 5 0 1/order 0 1/rings/fate 0", "ok/0/none/ok/0/1/yes 5/"},
		{"key 0 1 5 0/key 0 0 7 0 0/fate 0/fate 1/order 1 0", "ok/ok/no/no/none/"},
	}...)
}

// all is as at first: recipes, scripts, schedule, what was played last
func TestClear(t *testing.T) {
	full, told := "key 0 0 5 0/thread/call 5 0 1/thread/call 5 0 2/turns 1 1/play cell 0/", "ok/ok/ok/ok/ok/ok/ok/0 3/0 2/"
	wantsAll(t, [][2]string{
		{"clear", "ok/"}, {"clear/clear/trace", "ok/ok/error 170/"},
		{full + "clear/fate 0/order 0/rings", told + "ok/no/none/none/"},
		{full + "clear/play cell 0/play house/thread/play box/play house", told + "ok/error 1/error 1/ok/error 110/error 110/"},
		{full + "clear/trace/linear 1 0/linear 9 9", told + "ok/error 170/error 170/error 170/"},
		{full + "clear/call 1", told + "ok/error 170/"},
		{full + "clear/thread/call 5 0 1/thread/call 5 0 2/play cell 0", told + "ok/ok/ok/ok/ok/ok/0 1/0 3/"},
		{full + "clear/" + full + "trace", told + "ok/" + told + "0 -1 9 0 0/1 -1 9 0 0/1 0 5 0 2/1 -1 10 0 0/0 0 5 2 3/0 -1 10 0 0/"},
	}...)
}
