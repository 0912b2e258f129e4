package shell_test

import (
	"strings"
	"testing"

	"butler/api"
)

// P17.2: Plays, and what is asked of the last one

// each Play, by hand: what it tells, its trace, and whether it is linear. The scripts and their steps are those of the layers' chapters.
func TestPlays(t *testing.T) {
	for _, x := range []struct{ scripts, play, told, trace, linear, so string }{
		{"key 0 1 3 0/thread/call 1 0 0/call 1 7 0/call 3/call 4/call 2", "play house", "ok/70 3, 151 0, 0 0, 1 0, 140 0/",
			"0 -1 9 0 0/0 1 1 1 1/0 54 1 0 0/0 54 4 0 2/0 51 1 0 0/0 51 4 0 1/0 -1 11 0 0/0 52 2 0 3/0 51 2 1 71682/0 54 1 2 2/0 54 4 2 0/0 -1 10 0 70/" +
				"0 -1 9 1 0/0 8 1 0 0/0 -1 10 1 151/" +
				"0 -1 9 2 0/0 1 1 1 1/0 54 1 0 0/0 54 4 0 1/0 54 1 1 1/0 162 1 0 0/0 58 1 0 0/0 263 2 0 0/0 264 2 0 1/0 -1 10 2 0/" +
				"0 -1 9 3 0/0 -1 10 3 1/0 -1 9 4 0/0 1 1 1 1/0 54 1 1 1/0 -1 10 4 140/", "linear 5 1", "no"},
		{"key 0 0 1 0 1/key 0 0 1 0 0/thread/call 1 1/call 1 9", "play box", "ok/131 0, 150 0/",
			"0 -1 9 0 0/0 2 1 0 0/0 2 4 0 1/0 -1 11 1 0/0 5 2 0 1/0 4 1 0 0/0 0 1 0 0/0 0 4 0 1/0 -1 11 0 0/0 4 2 0 2/0 5 1 1 1/0 1 2 0 1/0 0 2 1 133122/0 3 2 0 0/0 2 2 1 134146/0 -1 10 0 131/0 -1 9 1 0/0 -1 10 1 150/", "linear 5 2", "no"},
		{"thread/call 1/call 2/thread/call 3", "play gate", "ok/0 0, 0 0/0 1/",
			"0 -1 9 0 0/1 -1 9 0 0/0 0 1 0 0/1 0 1 0 0/0 0 4 0 2/0 -1 10 0 0/0 -1 9 1 0/1 0 4 2 2/0 0 1 2 2/1 0 1 2 2/0 0 4 2 0/0 -1 10 1 0/1 0 4 0 0/1 0 1 0 0/1 0 4 0 1/1 0 1 1 1/1 -1 10 0 0/", "linear 1 0", "no"},
		{"thread/call 1 5/call 2 7", "play lock", "ok/0 0, 0 5/",
			"0 -1 9 0 0/0 0 5 0 1/0 1 1 0 0/0 2 1 0 0/0 2 2 0 5/0 1 5 0 1/0 -1 10 0 0/0 -1 9 1 0/0 1 1 1 1/0 0 4 1 2/0 2 1 5 5/0 2 2 5 12/0 1 5 1 2/0 -1 10 1 0/", "linear 1 0", "yes"},
		{"thread/call 1/thread/call 2", "play latch 1", "ok/0 0/0 0/",
			"0 -1 9 0 0/1 -1 9 0 0/0 0 1 1 1/1 0 1 1 1/0 0 4 1 0/0 -1 10 0 0/1 0 6 0 0/1 0 1 0 0/1 -1 10 0 0/", "linear 4 1", "yes"},
		{"thread/call 2 0 7/thread/call 1 0 8", "play once 1", "ok/70 7/70 7/",
			"0 -1 9 0 0/1 -1 9 0 0/0 0 1 0 0/1 0 1 0 0/0 0 4 0 1/1 0 4 1 1/0 1 2 0 7/1 0 1 1 1/0 0 2 1 71682/0 -1 10 0 70/1 0 6 0 0/1 0 1 71682 71682/1 1 1 7 7/1 -1 10 0 70/", "linear 5 1", "yes"},
		{"thread/call 1/call 3/call 2 5/call 2", "play slots 3", "ok/0 0, 0 0, 1 0, 81 0/",
			"0 -1 9 0 0/0 0 1 1 1/0 1 1 2 2/0 0 4 1 4294967298/0 2 2 0 1/0 -1 10 0 0/0 -1 9 1 0/0 2 4 1 0/0 0 1 4294967298 4294967298/0 1 2 2 2/0 0 4 4294967298 8589934593/0 -1 10 1 0/0 -1 9 2 0/0 -1 10 2 1/0 -1 9 3 0/0 2 4 0 0/0 -1 10 3 81/", "linear 2 0", "no"},
		{"thread/call 1 7/call 2", "play stack 1", "ok/0 0, 0 7/",
			"0 -1 9 0 0/0 0 1 1 1/0 1 1 0 0/0 0 4 1 4294967296/0 2 2 0 1/0 4 2 0 7/0 3 1 0 0/0 5 2 0 0/0 3 4 0 4294967297/0 -1 10 0 0/" +
				"0 -1 9 1 0/0 3 1 4294967297 4294967297/0 5 1 0 0/0 3 4 4294967297 8589934592/0 4 1 7 7/0 2 4 1 0/0 0 1 4294967296 4294967296/0 1 2 0 0/0 0 4 4294967296 8589934593/0 -1 10 1 0/", "linear 2 0", "yes"},
		{"thread/call 1 5/call 2/thread/call 1 -7", "play counter 2", "ok/0 0, 0 -2/0 0/",
			"0 -1 9 0 0/1 -1 9 0 0/0 0 1 0 0/1 1 1 0 0/0 0 4 0 4294967301/0 -1 10 0 0/0 -1 9 1 0/1 1 4 0 8589934585/1 -1 10 0 0/0 0 1 4294967301 4294967301/0 1 1 8589934585 8589934585/0 0 1 4294967301 4294967301/0 1 1 8589934585 8589934585/0 -1 10 1 0/", "linear 3 0", "yes"},
		{"thread/call 1 0 1/call 1 1 2/call 1 2 0", "play chain 3", "ok/0 0, 0 0, 0 1/",
			"0 -1 9 0 0/0 0 2 0 2/0 1 1 0 0/0 -1 10 0 0/0 -1 9 1 0/0 1 2 0 3/0 2 1 0 0/0 -1 10 1 0/0 -1 9 2 0/0 2 2 0 1/0 0 1 2 2/0 1 1 3 3/0 -1 10 2 0/", "linear 3 0", "no"},
		{"thread/call 1 0/call 5 0 2/call 4 0 7 9/call 4 0 1 2/call 3 1 -6", "play cell 5 8", "ok/0 5, 0 7, 0 1, 0 0, 0 8/",
			"0 -1 9 0 0/0 0 1 5 5/0 -1 10 0 0/0 -1 9 1 0/0 0 5 5 7/0 -1 10 1 0/0 -1 9 2 0/0 0 4 7 9/0 -1 10 2 0/0 -1 9 3 0/0 0 4 9 9/0 -1 10 3 0/0 -1 9 4 0/0 1 3 8 -6/0 -1 10 4 0/", "linear 1 5", "no"},
	} {
		ahead := strings.Repeat("ok/", strings.Count(x.scripts, "/")+1)
		wants(t, x.scripts+"/"+x.play+"/trace/"+x.linear+"/trace", ahead+x.told+x.trace+x.so+"/"+x.trace)
		wants(t, x.scripts+"/clear/"+x.scripts+"/"+x.play+"/"+x.play+"/trace", ahead+"ok/"+ahead+x.told+x.told+x.trace) // each in a new world
	}
}

// numbers that a Play may be handed, and the next ones to them
func TestPlaysNumbers(t *testing.T) {
	for _, x := range []struct {
		words       string
		least, most int
	}{
		{"play latch", 0, 999999999}, {"play once", 1, api.MaxSlots}, {"play slots", 0, api.MaxSlots}, {"play stack", 0, api.MaxSlots}, {"play counter", 1, api.MaxShards}, {"play chain", 1, api.MaxKeys},
	} {
		for _, n := range []int{x.least, x.least + 1, x.most - 1, x.most} {
			wants(t, "thread/"+numbers(x.words, n)+"/trace", "ok/ok/none/none/")
		}
		wrong := []int{x.least - 1, -999999999}
		if x.most < 999999999 {
			wrong = append(wrong, x.most+1, 999999999)
		}
		for _, n := range wrong {
			wants(t, "thread/"+numbers(x.words, n)+"/trace", "ok/error 1/error 170/")
			wants(t, strings.Repeat("thread/", 9)+strings.Repeat("call 0/", 65)+numbers(x.words, n), strings.Repeat("ok/", 74)+"error 2/")
		}
		wants(t, "thread/"+x.words+"/"+x.words+" 1 1/"+x.words+" x/trace", "ok/error 170/error 170/error 170/error 170/")
	}
	for _, x := range []string{"play house", "play box", "play gate", "play lock"} {
		wants(t, "key 0 0 1 0/thread/"+x+"/"+x+" 1/"+x+" 0/"+x+" x", "ok/ok/ok/none/error 170/error 170/error 170/")
	}
	wantsAll(t, [][2]string{
		{"thread/play/play 1/play cell/trace", "ok/error 170/error 170/error 1/error 170/"},
		{"thread/play cell 0/play cell -999999999 999999999/play cell" + strings.Repeat(" 1", 5000) + "/trace", "ok/ok/none/ok/none/ok/none/none/"},
		{"thread/call 5 -1 1/call 1 4999/play cell" + strings.Repeat(" 7", 5000), "ok/ok/ok/ok/0 8, 0 8/"},
		{"play house/play box/play gate/play lock/play latch 1/play once 1/play slots 1/play stack 1/play counter 1/play chain 1/play cell 1/trace", strings.Repeat("error 1/", 11) + "error 170/"}, // no scripts
	}...)
}

// a world that was stuck: that is told in place of ok, and in its trace
func TestStuck(t *testing.T) {
	wantsAll(t, [][2]string{
		{"thread/call 2/call 1/play latch 1/trace/linear 4 1/linear 4 0", "ok/ok/ok/stuck/4 0, 4 0/0 -1 9 0 0/0 0 1 1 1/-1 -1 7 0 0/0 -1 10 0 4/yes/yes/"},
		{"thread/call 1/call 3/call 2/play gate/trace", "ok/ok/ok/ok/stuck/0 0, 4 0, 4 0/0 -1 9 0 0/0 0 1 0 0/0 0 4 0 2/0 -1 10 0 0/0 -1 9 1 0/0 0 1 2 2/0 0 4 2 3/0 0 1 3 3/-1 -1 7 0 0/0 -1 10 1 4/"},
		{"thread/call 6 0 0/thread/call 6 0 0/call 1/play cell 0/trace", "ok/ok/ok/ok/ok/stuck/4 0/4 0, 4 0/0 -1 9 0 0/1 -1 9 0 0/0 0 1 0 0/1 0 1 0 0/-1 -1 7 0 0/0 -1 10 0 4/1 -1 10 0 4/"},
		{"thread/call 2/play latch 1/play latch 0/play latch 1/trace", "ok/ok/stuck/4 0/ok/0 0/stuck/4 0/0 -1 9 0 0/0 0 1 1 1/-1 -1 7 0 0/0 -1 10 0 4/"}, // another world is not stuck
		{"thread/call 2/thread/thread/call 1/play latch 2", "ok/ok/ok/ok/ok/stuck/4 0/none/0 0/"},
		{"thread/call 2/play latch 1/play latch -1/linear 4 1", "ok/ok/stuck/4 0/error 1/yes/"}, // it was not refused
	}...)
}

// played last is a Play that was not refused: one that was changes nothing of what is asked
func TestRefused(t *testing.T) {
	lock := "thread/call 1 5/call 1 6/play lock/"
	told := "ok/ok/ok/ok/0 0, 0 5/"
	trace := "0 -1 9 0 0/0 0 5 0 1/0 1 1 0 0/0 2 1 0 0/0 2 2 0 5/0 1 5 0 1/0 -1 10 0 0/0 -1 9 1 0/0 0 5 1 2/0 1 1 1 1/0 2 1 5 5/0 2 2 5 11/0 1 5 1 2/0 -1 10 1 0/"
	for _, x := range [][2]string{
		{"play house", "error 110/"}, {"play box", "error 110/"}, {"play latch -1", "error 1/"}, {"play once 0", "error 1/"}, {"play slots 1001", "error 1/"}, {"play stack -1", "error 1/"}, {"play counter 17", "error 1/"}, {"play chain 0", "error 1/"}, {"play cell", "error 1/"},
		{"play lock 1", "error 170/"}, {"play lock x", "error 170/"}, {"play latch", "error 170/"}, {"play", "error 170/"}, {"Play lock", "error 170/"},
		{strings.Repeat("call 1/", 63) + "play lock", strings.Repeat("ok/", 63) + "error 2/"},
		{strings.Repeat("thread/", 8) + "play lock", strings.Repeat("ok/", 8) + "error 1/"},
		{strings.Repeat("key 0 0 0 0/", 101) + "play house/play box", strings.Repeat("ok/", 101) + "error 2/error 2/"},
	} {
		wants(t, lock+x[0]+"/trace/linear 1 0/linear 2 0", told+x[1]+trace+"yes/no/")
	}
	wants(t, lock+"play lock/play latch 2/trace/linear 4 2", told+"ok/0 0, 0 5/ok/0 0, 0 0/0 -1 9 0 0/0 0 1 2 2/0 0 4 2 1/0 -1 10 0 0/0 -1 9 1 0/0 0 1 1 1/0 0 4 1 0/0 -1 10 1 0/yes/") // the last one
	wants(t, lock+"clear/trace/linear 1 0", told+"ok/error 170/error 170/")
	wants(t, "play lock/trace/thread/play latch -1/linear 1 0/play once 0/trace/play box/linear 1 0", "error 1/error 170/ok/error 1/error 170/error 1/error 170/error 110/error 170/") // none was not refused
}

// what was played last is as it was then, whatever comes behind: calls in its last script, new scripts, recipes, turns
func TestAsItWas(t *testing.T) {
	played, told := "key 0 0 5 0/thread/call 1 5/thread/call 1 6/turns 1 1 1 1 1 1 1 1/play lock/", "ok/ok/ok/ok/ok/ok/ok/0 6/0 0/"
	trace := "0 -1 9 0 0/1 -1 9 0 0/1 0 5 0 1/1 1 1 0 0/1 2 1 0 0/1 2 2 0 6/1 1 5 0 1/1 -1 10 0 0/0 0 5 1 2/0 1 1 1 1/0 2 1 6 6/0 2 2 6 11/0 1 5 1 2/0 -1 10 0 0/"
	for _, x := range []string{"", "call 1 7/", "call 9/call 2/", "thread/", "thread/call 1/", "key 0 0 1 0/", "turns 0 0/", "call 1 7/thread/call 1 8/thread/turns 5/key 9 9 9 9/", strings.Repeat("call 1/", 70), strings.Repeat("thread/call 1/", 10)} {
		wants(t, played+x+"trace/linear 1 0/linear 1 1/linear 3 0/trace", told+strings.Repeat("ok/", strings.Count(x, "/"))+trace+"yes/no/no/"+trace)
	}
	wants(t, played+"call 1 7/play lock/linear 1 0/call 1 8/linear 1 0/thread/call 2 1/linear 1 0/play lock/linear 1 0", told+"ok/ok/0 13/0 0, 0 6/yes/ok/yes/ok/ok/yes/ok/0 13/0 0, 0 6, 0 18/0 -1/yes/")
}

// what linear tells, and its errors
func TestLinear(t *testing.T) {
	calls := func(many int) string { return "thread/" + strings.Repeat("call 1/", many) }
	told := func(many int) string {
		return strings.Repeat("ok/", many+2) + strings.TrimSuffix(strings.Repeat("0 0, ", many), ", ") + "/"
	}
	wantsAll(t, [][2]string{
		{"linear 1 0/linear 9 0/linear 1/linear/linear 1 2 3/linear x 0", strings.Repeat("error 170/", 6)},
		{"thread/play lock/linear 1 0/linear 1 -5/linear 2 0/linear 3 7/linear 4 3/linear 5 1000", "ok/ok/none/yes/yes/yes/yes/yes/yes/"}, // nothing was called
		{"thread/play lock/linear 0 0/linear 6 0/linear -1 0/linear 999999999 0/linear 2 1/linear 4 -1/linear 5 0/linear 5 1001", "ok/ok/none/" + strings.Repeat("error 1/", 8)},
		{"thread/call 1 5/call 1 6/play lock/linear 1 0/linear 1 5/linear 3 0/linear 2 0/linear 4 2/linear 5 1", "ok/ok/ok/ok/0 0, 0 5/yes/no/no/no/no/no/"},
		{calls(12) + "play lock/linear 1 0/linear 4 12/linear 4 11", told(12) + "yes/yes/no/"},
		{calls(13) + "play lock/linear 1 0/linear 4 13/linear 0 0/linear 2 1", told(13) + "error 3/error 3/error 1/error 1/"}, // what may not be asked goes first
		{"thread/call 1 1000/call 2/play counter 1/linear 3 0/linear 3 1/linear 1 0", "ok/ok/ok/ok/0 0, 0 0/yes/no/no/"},
		{"thread/call 9/play lock/linear 1 0", "ok/ok/ok/1 0/no/"}, // an Op that no object has
		{"thread/call 2/call 9/play latch 1/linear 4 1", "ok/ok/ok/stuck/4 0, 4 0/yes/"},
	}...)
}
