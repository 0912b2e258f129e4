package word_test

import (
	"math"
	"slices"
	"strconv"
	"strings"
	"testing"

	"butler/api"
	"butler/word"
)

// fields makes a list of fields of numbers, At and Bits in turns.
func fields(l ...int) []api.Field {
	var out []api.Field
	for i := 0; i < len(l); i += 2 {
		out = append(out, api.Field{At: l[i], Bits: l[i+1]})
	}
	return out
}

// text is an int as 64 digits, the sign bit first: the tests' own view of a word, in which a field is a piece of text.
func text(x int) string {
	s := strconv.FormatUint(uint64(x), 2)
	return strings.Repeat("0", 64-len(s)) + s
}

func number(t *testing.T, s string) int {
	t.Helper()
	u, err := strconv.ParseUint(s, 2, 64)
	if err != nil {
		t.Fatal(err)
	}
	return int(u)
}

// holds is what a field that may be holds, by the text.
func holds(t *testing.T, x int, f api.Field) int {
	t.Helper()
	return number(t, text(x)[64-f.At-f.Bits:64-f.At])
}

// put is x with v in a field that may be, by the text.
func put(t *testing.T, x int, f api.Field, v int) int {
	t.Helper()
	s := text(x)
	return number(t, s[:64-f.At-f.Bits]+text(v)[64-f.Bits:]+s[64-f.At:])
}

// mustPut is Put where it may not fail.
func mustPut(t *testing.T, x int, f api.Field, v int) int {
	t.Helper()
	got, e := word.Put(x, f, v)
	if e != api.OK {
		t.Fatalf("Put(%d, %v, %d): %d", x, f, v, e)
	}
	return got
}

// rightFields are all fields that may be, counted out with no sum of At and Bits that could go round.
func rightFields() []api.Field {
	var out []api.Field
	for at := range 64 {
		for bits := 1; bits <= 62 && bits <= 64-at; bits++ {
			out = append(out, api.Field{At: at, Bits: bits})
		}
	}
	return out
}

// wrongFields may not be: near the edges, and far from them.
func wrongFields() []api.Field {
	return fields(
		-1, 1, -1, 2, -1, 62, -2, 2, -64, 62, math.MinInt, 1, math.MinInt, 62,
		0, 0, 5, 0, 63, 0, 64, 0, 0, -1, 3, -2, 0, math.MinInt, 10, math.MinInt,
		0, 63, 1, 63, 0, 64, 0, 65, -1, 63, -2, 64, 0, math.MaxInt, 1, math.MaxInt, 0, 1<<32+1,
		64, 1, 63, 2, 3, 62, 60, 5, 33, 32, 65, 1, 1<<32, 1, math.MaxInt, 1, math.MaxInt, 62,
		math.MaxInt, math.MaxInt, math.MinInt, math.MinInt, math.MinInt, math.MaxInt, math.MaxInt, math.MinInt,
		64, -1, 65, -2, math.MaxInt, -1)
}

// words are ints with bits of all kinds.
func words() []int {
	const mixed = 0x123456789abcdef
	return []int{0, 1, 2, 5, 7, 14, 1020, 1023, -1, -2, -5, -1024, mixed, -mixed, ^mixed, 0x5555555555555555, -0x5555555555555556,
		1 << 61, 1 << 62, 1<<62 - 1, -1 << 62, math.MaxInt, math.MaxInt - 1, math.MinInt, math.MinInt + 1}
}

// values are some that a field so long can hold, the edges among them.
func values(bits int) []int {
	most := 1<<bits - 1
	out := []int{0, 1, most, most - 1, most / 2, most/2 + 1, most / 3, 0x2b5ad6b5ad6b5ad6 & most}
	slices.Sort(out)
	return slices.Compact(out)
}

// splits are fields that are Right and have just the bits from 0 to n - 1: such as are one long, two, and so on up to 62, the last one what is left; in several orders.
func splits(n int) [][]api.Field {
	var out [][]api.Field
	for size := 1; size <= 62; size++ {
		var l []api.Field
		for at := 0; at < n; at += size {
			l = append(l, api.Field{At: at, Bits: min(size, n-at)})
		}
		back := slices.Clone(l)
		slices.Reverse(back)
		half := len(l) / 2
		out = append(out, l, back, slices.Concat(l[half:], l[:half]))
		if size >= n {
			break
		}
	}
	return out
}

func TestErrorNumber(t *testing.T) {
	_, e := word.Put(0, api.Field{At: 0, Bits: 0}, 0)
	if e != 10 || e.Error() != "error 10" {
		t.Errorf("a field that may not be: %d, %q", int(e), e.Error())
	}
}

// P1.1
func TestRight(t *testing.T) {
	for _, c := range []struct {
		l    []api.Field
		want bool
	}{
		{fields(0, 2, 2, 8, 10, 20), true},
		{fields(0, 2, 1, 1), false},
		{nil, true},
		{[]api.Field{}, true},
		{fields(0, 62, 62, 2), true},
		{fields(62, 2, 0, 62), true},
		{fields(63, 1, 62, 1, 0, 62), true},
		{fields(63, 1, 1, 62, 0, 1), true},
		{fields(2, 62, 0, 2), true},
		{fields(2, 62, 0, 3), false},
		{fields(63, 1, 63, 1), false},
		{fields(63, 1, 62, 2), false},
		{fields(0, 62, 61, 3), false},
		{fields(0, 1, 0, 1), false},
		{fields(1, 1, 0, 3), false},
		{fields(0, 3, 1, 1), false},
		{fields(10, 4, 0, 4, 4, 6), true},
		{fields(10, 4, 0, 4, 4, 7), false},
		{fields(0, 1, 2, 1, 4, 1, 2, 1), false},
		{fields(40, 8, 0, 8, 20, 8, 47, 1), false},
		{fields(0, 2, 2, 0), false},
		{fields(0, 2, 4, 63), false},
		{fields(0, 4, 8, 4, -3, 3), false},
	} {
		if got := word.Right(c.l); got != c.want {
			t.Errorf("Right(%v) = %t", c.l, got)
		}
	}
}

func TestRightOfOne(t *testing.T) {
	for _, f := range rightFields() {
		if !word.Right([]api.Field{f}) {
			t.Errorf("Right of %v alone: false", f)
		}
	}
	for _, f := range wrongFields() {
		for _, l := range [][]api.Field{{f}, {{At: 20, Bits: 1}, f}, {f, {At: 20, Bits: 1}}} {
			if word.Right(l) {
				t.Errorf("Right(%v) = true", l)
			}
		}
	}
}

func TestRightOfTwo(t *testing.T) {
	l := rightFields()
	for i, f := range l {
		for j := i % 7; j < len(l); j += 7 {
			g := l[j]
			apart := f.At+f.Bits <= g.At || g.At+g.Bits <= f.At
			if got := word.Right([]api.Field{f, g}); got != apart {
				t.Fatalf("Right of %v, %v = %t", f, g, got)
			}
		}
	}
}

func TestRightOfManyAndLong(t *testing.T) {
	var all []api.Field
	for at := range 64 {
		all = append(all, api.Field{At: 63 - at, Bits: 1})
	}
	if !word.Right(all) {
		t.Error("each bit a field: false")
	}
	for at := range 64 {
		if word.Right(append(slices.Clone(all), api.Field{At: at, Bits: 1})) {
			t.Errorf("each bit a field, and %d again: true", at)
		}
	}
	if word.Right(make([]api.Field, 100000)) {
		t.Error("many fields without a bit: true")
	}
}

// P1.2
func TestGet(t *testing.T) {
	for _, c := range []struct{ x, at, bits, want int }{
		{14, 1, 2, 3}, {-1, 62, 2, 3}, {-1, 0, 62, 1<<62 - 1}, {5, 0, 0, 0},
		{math.MinInt, 63, 1, 1}, {math.MaxInt, 63, 1, 0}, {math.MinInt, 2, 62, 1 << 61}, {-2, 0, 1, 0}, {-1, 2, 62, 1<<62 - 1},
	} {
		if got := word.Get(c.x, api.Field{At: c.at, Bits: c.bits}); got != c.want {
			t.Errorf("Get(%d, %d %d) = %d", c.x, c.at, c.bits, got)
		}
	}
}

func TestGetOfAll(t *testing.T) {
	for _, x := range words() {
		for _, f := range rightFields() {
			if got, want := word.Get(x, f), holds(t, x, f); got != want {
				t.Fatalf("Get(%d, %v) = %d, not %d", x, f, got, want)
			}
		}
		for _, f := range wrongFields() {
			if got := word.Get(x, f); got != 0 {
				t.Errorf("Get(%d, %v) = %d", x, f, got)
			}
		}
	}
}

// P1.3
func TestPut(t *testing.T) {
	for _, c := range []struct {
		x, at, bits, v, want int
		e                    api.Errno
	}{
		{0, 2, 8, 255, 1020, api.OK}, {1023, 2, 8, 0, 3, api.OK}, {0, 62, 2, 2, math.MinInt, api.OK},
		{-1, 63, 1, 0, math.MaxInt, api.OK}, {math.MaxInt, 63, 1, 1, -1, api.OK}, {0, 2, 62, 1<<62 - 1, -4, api.OK},
		{0, 2, 8, 256, 0, api.ErrWordField}, {0, 2, 8, -1, 0, api.ErrWordField}, {7, 0, 64, 1, 0, api.ErrWordField},
		{7, 0, 62, 1 << 62, 0, api.ErrWordField}, {7, 3, 1, 2, 0, api.ErrWordField}, {7, 63, 1, -1, 0, api.ErrWordField},
	} {
		if got, e := word.Put(c.x, api.Field{At: c.at, Bits: c.bits}, c.v); got != c.want || e != c.e {
			t.Errorf("Put(%d, %d %d, %d) = %d, %d", c.x, c.at, c.bits, c.v, got, e)
		}
	}
}

func TestPutOfAll(t *testing.T) {
	for _, f := range rightFields() {
		most := 1<<f.Bits - 1
		for _, x := range words() {
			for _, v := range values(f.Bits) {
				if got, want := mustPut(t, x, f, v), put(t, x, f, v); got != want {
					t.Fatalf("Put(%d, %v, %d) = %d, not %d", x, f, v, got, want)
				}
			}
			for _, v := range []int{-1, -2, most + 1, most + 2, -most - 1, math.MaxInt, math.MinInt} {
				if got, e := word.Put(x, f, v); got != 0 || e != api.ErrWordField {
					t.Fatalf("Put(%d, %v, %d) = %d, %d", x, f, v, got, e)
				}
			}
		}
	}
}

func TestPutIntoWrongFields(t *testing.T) {
	for _, f := range wrongFields() {
		for _, x := range words() {
			for _, v := range []int{0, 1, -1, math.MaxInt, math.MinInt} {
				if got, e := word.Put(x, f, v); got != 0 || e != api.ErrWordField {
					t.Errorf("Put(%d, %v, %d) = %d, %d", x, f, v, got, e)
				}
			}
		}
	}
}

// P1.4
func TestHandedInIsNotChanged(t *testing.T) {
	for _, l := range [][]api.Field{fields(10, 4, 0, 4, 4, 6, 63, 1), fields(5, 2, 0, 6), fields(9, 1, 3, 0, 1, 1)} {
		for n := range len(l) + 1 {
			room := slices.Clone(l)
			word.Right(room[:n])
			if !slices.Equal(room, l) {
				t.Errorf("Right of the first %d of %v made it %v", n, l, room)
			}
		}
	}
}

func TestHandedInIsNotKept(t *testing.T) {
	l := fields(0, 2, 2, 8)
	for range 3 {
		if !word.Right(l) {
			t.Fatal("Right of fields that are so: false")
		}
		l[1].At = 1
		if word.Right(l) {
			t.Fatal("Right of the same list, its fields now across one another: true")
		}
		l[1].At = 2
		if x, e := word.Put(0, l[1], 255); x != 1020 || e != api.OK || word.Get(x, l[1]) != 255 || word.Get(0, l[1]) != 0 {
			t.Fatal("an answer hangs on an earlier call")
		}
	}
}

// P1.5
func TestBack(t *testing.T) {
	for _, f := range rightFields() {
		vs := values(f.Bits)
		for _, x := range words() {
			if got := mustPut(t, x, f, word.Get(x, f)); got != x {
				t.Fatalf("Put of what %v holds in %d made %d of it", f, x, got)
			}
			for i, v := range vs {
				once := mustPut(t, x, f, v)
				if got := word.Get(once, f); got != v {
					t.Fatalf("behind Put(%d, %v, %d) Get tells %d", x, f, v, got)
				}
				u := vs[len(vs)-1-i]
				if got, want := mustPut(t, once, f, u), mustPut(t, x, f, u); got != want {
					t.Fatalf("into %d, %v: %d behind %d makes %d, alone %d", x, f, u, v, got, want)
				}
			}
		}
	}
}

// P1.6
func TestApart(t *testing.T) {
	l := rightFields()
	xs := []int{0, -1, math.MinInt, 0x123456789abcdef, -0x5555555555555556}
	for i, f := range l {
		for j := i % 11; j < len(l); j += 11 {
			g := l[j]
			if !word.Right([]api.Field{f, g}) {
				continue
			}
			v, u := 1<<f.Bits-1, 0x2b5ad6b5ad6b5ad6&(1<<g.Bits-1)
			for _, x := range xs {
				first := mustPut(t, x, f, v)
				if word.Get(first, g) != word.Get(x, g) {
					t.Fatalf("Put(%d, %v, %d) changed %v", x, f, v, g)
				}
				if mustPut(t, first, g, u) != mustPut(t, mustPut(t, x, g, u), f, v) {
					t.Fatalf("into %d: %v of %d and %v of %d do not change places", x, f, v, g, u)
				}
			}
		}
	}
}

// P1.7
func TestWhole(t *testing.T) {
	for n := range 64 {
		most := int(uint64(1)<<n - 1)
		for _, l := range splits(n) {
			if !word.Right(l) {
				t.Fatalf("Right(%v) = false", l)
			}
			for _, x := range []int{0, most, most / 2, most / 3, 0x2b5ad6b5ad6b5ad6 & most, 0x123456789abcdef & most} {
				got := 0
				for _, f := range l {
					got = mustPut(t, got, f, word.Get(x, f))
				}
				if got != x {
					t.Fatalf("%v make %d of what they hold in %d", l, got, x)
				}
			}
		}
	}
}
