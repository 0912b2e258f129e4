package shell

import (
	"strconv"
	"strings"

	"butler/api"
)

// none is told where there is nothing to tell of.
const none = "none"

// mostDigits are those of a number, noughts ahead too.
const mostDigits = 9

// words are those of a line; false: it has a byte that may not be. A rune below a blank is a byte, since in UTF-8 all bytes of longer ones are 128 and above, and what is no UTF-8 comes byte by byte as a great rune.
func words(line string) ([]string, bool) {
	var l []string
	begin := -1 // of the word that is gone through; below 0: there is none
	for i, r := range line {
		switch {
		case r == ' ' || r == '\t':
			if begin >= 0 {
				l = append(l, line[begin:i])
			}
			begin = -1
		case r < ' ':
			return nil, false
		case begin < 0:
			begin = i
		}
	}
	if begin >= 0 {
		l = append(l, line[begin:])
	}
	return l, true
}

// apart takes the words ahead of a line's numbers, with a blank between, from the numbers; false: behind a number stands what is none.
func apart(l []string) (string, []int, bool) {
	var ahead []string
	var numbers []int
	for _, word := range l {
		n, is := number(word)
		switch {
		case is:
			numbers = append(numbers, n)
		case len(numbers) > 0:
			return "", nil, false
		default:
			ahead = append(ahead, word)
		}
	}
	return strings.Join(ahead, " "), numbers, true
}

// number is what a word tells, if it is one.
func number(word string) (int, bool) {
	digits, below := strings.CutPrefix(word, "-")
	if len(digits) == 0 || len(digits) > mostDigits {
		return 0, false
	}
	n := 0
	for _, r := range digits {
		if r < '0' || r > '9' {
			return 0, false
		}
		n = 10*n + int(r-'0')
	}
	if below {
		n = -n
	}
	return n, true
}

// failed tells an error.
func failed(e api.Errno) []string { return []string{e.Error()} }

// row tells keys, or numbers.
func row(l ...int) string {
	if len(l) == 0 {
		return none
	}
	told := strconv.AppendInt(nil, int64(l[0]), 10)
	for _, n := range l[1:] {
		told = strconv.AppendInt(append(told, ' '), int64(n), 10)
	}
	return string(told)
}

// listed tells what a script was answered.
func listed(l []api.Answer) string {
	if len(l) == 0 {
		return none
	}
	var each []string
	for _, x := range l {
		each = append(each, row(int(x.Code), x.Value))
	}
	return strings.Join(each, ", ")
}
