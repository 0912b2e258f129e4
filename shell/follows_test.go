package shell_test

import (
	"strings"
	"testing"

	"butler/shell"
	"butler/trial"
)

// P17.3

// whole is a text of all kinds of lines, each with a byte 10 behind.
func whole(r *trial.Row) string {
	return strings.TrimRight(someText(r, r.One(0, 0, 1, 3)), "\n") + "\n"
}

// lines that tell nothing, put anywhere, change nothing
func TestSilentAnywhere(t *testing.T) {
	r := trial.Row(11)
	for range 1500 {
		text := whole(&r)
		want := shell.Do(text)
		var out strings.Builder
		for line := range strings.Lines(text) {
			for range r.Below(3) {
				out.WriteString(silent()[r.Below(len(silent()))] + "\n")
			}
			out.WriteString(line)
		}
		out.WriteString(silent()[r.Below(len(silent()))])
		if got := shell.Do(out.String()); got != want {
			t.Fatalf("%q tells\n%s\nand not, as %q,\n%s", out.String(), got, text, want)
		}
	}
	all := strings.Join(silent(), "\n") + "\n" // each of them between all lines
	for _, x := range []string{ready + "trace/linear 1 0/clear/trace/rings/", "key 0 0 5 0/thread/call 1 0 0/turns 1/play house/fate 0/order 0/trace/"} {
		want := shell.Do(lines(x))
		if got := shell.Do(all + strings.ReplaceAll(x, "/", "\n"+all)); got != want {
			t.Errorf("%q: %q, and not %q", x, got, want)
		}
	}
}

// what is told of a text's beginning, up to a byte 10, is a beginning of what is told of the text
func TestBeginnings(t *testing.T) {
	r := trial.Row(12)
	for range 400 {
		text := whole(&r)
		told, before := shell.Do(text), ""
		for i, b := range text {
			if b != '\n' {
				continue
			}
			part := shell.Do(text[:i+1])
			if !strings.HasPrefix(told, part) || !strings.HasPrefix(part, before) {
				t.Fatalf("%q tells\n%s\nbut %q\n%s", text[:i+1], part, text, told)
			}
			if part != shell.Do(text[:i]) {
				t.Fatalf("%q tells otherwise without its last byte", text[:i+1])
			}
			before = part
		}
		if before != told {
			t.Fatalf("%q tells more than all of it", text)
		}
	}
}

// a clear makes what stands behind it tell what it tells alone
func TestClearAnywhere(t *testing.T) {
	r := trial.Row(13)
	for range 1500 {
		first, second := whole(&r), whole(&r)
		third := []string{"trace\nlinear 1 0\nrings\nfate 0\nplay gate\nplay house\ncall 1\n", "thread\nplay house\ncall 5 0 1\nthread\ncall 5 0 2\nplay cell 0\n", ""}[r.Below(3)]
		want := shell.Do(first) + "ok\n" + shell.Do(second) + "ok\n" + shell.Do(third)
		for _, clear := range []string{"clear\n", " \tclear  \n"} {
			if got := shell.Do(first + clear + second + clear + third); got != want {
				t.Fatalf("%q, clear, %q, clear, %q: %q, and not %q", first, second, third, got, want)
			}
		}
	}
}

// a line that is none changes nothing but that it is told
func TestWrongAnywhere(t *testing.T) {
	r := trial.Row(14)
	wrong := []string{"x", "\x01", "# \x02", "turns 1 1 x", "turns 1 1 \x7f", "clear 1", "clear x", "key 0 0 1", "key 0 0 1 0 x", "call", "call 1 2 3 4 5", "thread 1", "thread thread", "play", "play lock 1", "play latch", "linear 1", "trace 1", "order x", "fate", "Clear", "THREAD"}
	for range 1500 {
		l := strings.SplitAfter(whole(&r), "\n")
		at := r.Below(len(l))
		first, behind := strings.Join(l[:at], ""), strings.Join(l[at:], "")
		want := shell.Do(first) + "error 170\n" + strings.TrimPrefix(shell.Do(first+behind), shell.Do(first))
		if text := first + wrong[r.Below(len(wrong))] + "\n" + behind; shell.Do(text) != want {
			t.Fatalf("%q tells\n%s\nand not\n%s", text, shell.Do(text), want)
		}
	}
}
