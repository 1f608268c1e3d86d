package promises

import (
	"math"
	"math/rand"
	"slices"
	"strings"
	"testing"

	"junction/api"
	"junction/junction"
)

// single has one server, whose IDs are told by the order of what is sent.
var single = api.Config{Servers: 1, Points: 1, Window: 6}

// keysOf tells a key of each server.
func keysOf(t *testing.T, c api.Config) []string {
	t.Helper()
	keys := make([]string, c.Servers)
	for i := 0; slices.Contains(keys, ""); i++ {
		k := "k" + decimal(i)
		if o := owner(t, c, k); keys[o] == "" {
			keys[o] = k
		}
	}
	return keys
}

// With one who is not there, nothing is changed: neither what waits, nor what
// came of an answer.
func TestNoSuchServer(t *testing.T) {
	for servers := 1; servers <= api.MaxServers; servers++ {
		c := api.Config{Servers: servers, Points: 3, Window: 6}
		for _, n := range []int{math.MinInt, -1 << 32, -1, servers, servers + 1, 4, 5, 1 << 32, math.MaxInt} {
			x := joined(t, c, api.Lines)
			k := keysOf(t, c)[servers-1]
			say(t, x, 0, "get "+k+"\n")
			hear(t, x, servers-1, reply(0, 0, "ab")[:8])
			for range 2 {
				for _, piece := range []string{"", "b", reply(0, 0, ""), head(9, 9, 9, 9, 9)} {
					if e := x.Answer(n, piece); e != api.ErrArg {
						t.Fatalf("%d servers: Answer(%d) = %d", servers, n, e)
					}
				}
				if a, b := x.Down(n), x.Up(n); a != api.ErrArg || b != api.ErrArg {
					t.Fatalf("%d servers: Down, Up(%d) = %d, %d", servers, n, a, b)
				}
			}
			for i := range servers {
				wantUp(t, x, i)
			}
			wantTold(t, x, 0, "")
			hear(t, x, servers-1, "b")
			wantTold(t, x, 0, "value "+k+" 2\nab\nend\n")
			// That there is no such server goes ahead of whatever is down.
			for i := range servers {
				goDown(t, x, i)
			}
			if a, b, d := x.Answer(n, ""), x.Down(n), x.Up(n); a != api.ErrArg || b != api.ErrArg || d != api.ErrArg {
				t.Fatalf("%d servers, all down: Answer, Down, Up(%d) = %d, %d, %d", servers, n, a, b, d)
			}
		}
	}
}

// What each status comes to, in each dialect; frames have the client's own ID.
func TestAnswerOfEachKind(t *testing.T) {
	all := bytesUpTo(api.MaxValue)
	for _, a := range []struct {
		c                   api.Command
		answer              string
		lines, frame, lists string
	}{
		{get("a"), reply(0, 0, ""), "value a 0\n\nend\n", "\x02\x00\x00\x00\x00\x07\x08", "$0\n\n"},
		{get("a"), reply(0, 0, "z"), "value a 1\nz\nend\n", "\x02\x00\x00\x01\x00\x07\x08z", "$1\nz\n"},
		{get("a"), reply(0, 0, "\nend\n"), "value a 5\n\nend\n\nend\n", "\x02\x00\x00\x05\x00\x07\x08\nend\n", "$5\n\nend\n\n"},
		{get("abcdefgh"), reply(0, 0, all), "value abcdefgh 40\n" + all + "\nend\n", "\x02\x00\x00\x28\x00\x07\x08" + all, "$40\n" + all + "\n"},
		{get("a"), reply(1, 0, ""), "end\n", "\x02\x01\x00\x00\x00\x07\x08", "$-1\n"},
		{get("a"), reply(2, 0, ""), "fail refused\n", "\x02\x02\x00\x00\x00\x07\x08", "-refused\n"},
		{set("a", "v"), reply(0, 0, ""), "done\n", "\x02\x00\x00\x00\x00\x07\x08", "+done\n"},
		{set("a", ""), reply(0, 0, ""), "done\n", "\x02\x00\x00\x00\x00\x07\x08", "+done\n"},
		{set("a", all), reply(1, 0, ""), "done\n", "\x02\x00\x00\x00\x00\x07\x08", "+done\n"},
		{set("a", "v"), reply(2, 0, ""), "fail refused\n", "\x02\x02\x00\x00\x00\x07\x08", "-refused\n"},
		{del("a"), reply(0, 0, ""), "gone\n", "\x02\x00\x00\x00\x00\x07\x08", ":1\n"},
		{del("a"), reply(1, 0, ""), "none\n", "\x02\x01\x00\x00\x00\x07\x08", ":0\n"},
		{del("a"), reply(2, 0, ""), "fail refused\n", "\x02\x02\x00\x00\x00\x07\x08", "-refused\n"},
	} {
		for d, want := range map[int]string{api.Lines: a.lines, api.Frames: a.frame, api.Lists: a.lists} {
			x := joined(t, single, d)
			say(t, x, 0, ask(t, d, a.c, 0x0807))
			hear(t, x, 0, "", a.answer[:len(a.answer)-1], "")
			wantTold(t, x, 0, "")
			hear(t, x, 0, a.answer[len(a.answer)-1:])
			wantTold(t, x, 0, want)
			wantUp(t, x, 0)
			// What is answered waits no more: all goes on as before.
			say(t, x, 0, ask(t, d, a.c, 0x0807))
			goDown(t, x, 0)
			failed := map[int]string{api.Lines: "fail down\n", api.Frames: "\x02\x02\x00\x00\x00\x07\x08", api.Lists: "-down\n"}
			wantTold(t, x, 0, want+failed[d])
		}
	}
}

// orders has every order of the numbers from 0 to n-1.
func orders(n int) [][]int {
	if n == 0 {
		return [][]int{nil}
	}
	var all [][]int
	for _, o := range orders(n - 1) {
		for at := range n {
			all = append(all, slices.Insert(slices.Clone(o), at, n-1))
		}
	}
	return all
}

// The parts of a Get may be answered in any order; it is told with the last.
func TestPartsInAnyOrder(t *testing.T) {
	keys := []string{"a", "b", "a", "c"}
	for _, o := range orders(4) {
		x := joined(t, single, api.Lines, api.Lists)
		say(t, x, 0, ask(t, api.Lines, get(keys...), 0))
		say(t, x, 1, ask(t, api.Lists, get(keys...), 0))
		for client, want := range []string{
			"value a 3\none\nvalue a 0\n\nvalue c 4\nfour\nend\n",
			"*4\n$3\none\n$-1\n$0\n\n$4\nfour\n",
		} {
			id := 4 * client
			answers := []string{reply(0, id, "one"), reply(1, id+1, ""), reply(0, id+2, ""), reply(0, id+3, "four")}
			for _, n := range o {
				wantTold(t, x, client, "")
				hear(t, x, 0, answers[n])
			}
			wantTold(t, x, client, want)
		}
		wantUp(t, x, 0)
	}
}

// A client is told in the order in which it asked, whatever comes first; what
// is wrong, and what is fatal, waits for its turn.
func TestToldInTheOrderAsked(t *testing.T) {
	lines := []string{"value a 1\n0\nend\n", "done\n", "none\n", "value b 1\n3\nend\n"}
	for _, o := range orders(4) {
		x := joined(t, single, api.Lines, api.Lists)
		say(t, x, 1, list("get", "x")+"*2\n$4\n"+"oops\n*")
		say(t, x, 0, "get a\nset a 1\nx\nfoo\ndel a\nset b 41\nget b\n")
		answers := []string{reply(0, 1, "0"), reply(0, 2, ""), reply(1, 3, ""), reply(0, 4, "3")}
		came := map[int]bool{}
		for _, n := range o {
			hear(t, x, 0, answers[n])
			came[n] = true
			want := ""
			for i := 0; i < 4 && came[i]; i++ {
				want += lines[i]
				want += map[int]string{1: "fail form\n", 2: "fail big\n"}[i]
			}
			wantTold(t, x, 0, want)
			wantTold(t, x, 1, "")
		}
		hear(t, x, 0, reply(2, 0, ""))
		wantTold(t, x, 1, "-refused\n-form\n")
	}
}

// One client's answers wait for no other client.
func TestClientsDoNotWaitForEachOther(t *testing.T) {
	x := joined(t, single, api.Frames, api.Frames, api.Lines, api.Lists)
	say(t, x, 0, head(1, 1, 1, 0, 500)+"a"+head(1, 2, 1, 1, 500)+"bv")
	say(t, x, 1, head(1, 3, 1, 0, 0)+"a")
	say(t, x, 2, "get a\n")
	say(t, x, 3, list("get", "a"))
	hear(t, x, 0, reply(0, 4, "lists"))
	wantTold(t, x, 3, "$5\nlists\n")
	hear(t, x, 0, reply(0, 3, "lines"))
	wantTold(t, x, 2, "value a 5\nlines\nend\n")
	hear(t, x, 0, reply(1, 2, ""))
	wantTold(t, x, 1, head(2, 1, 0, 0, 0))
	hear(t, x, 0, reply(0, 1, ""))
	wantTold(t, x, 0, "")
	hear(t, x, 0, reply(0, 0, "frames"))
	wantTold(t, x, 0, head(2, 0, 0, 6, 500)+"frames"+head(2, 0, 0, 0, 500))
}

// As soon as one is told another one is read, and not earlier.
func TestReadOnWhenTold(t *testing.T) {
	for _, d := range dialects {
		for window := 1; window <= api.MaxWindow; window++ {
			x := joined(t, api.Config{Servers: 1, Points: 1, Window: window}, d)
			const all = 20
			text, want, told := "", "", ""
			for i := range all {
				c := set("k"+decimal(i), decimal(i))
				text += ask(t, d, c, i)
				if i < window {
					want += request(api.Set, "k"+decimal(i), decimal(i), i)
				}
			}
			say(t, x, 0, text)
			for i := range all {
				wantSent(t, x, 0, want)
				// All but the first that waits: nothing is told, nothing read.
				if i == 0 {
					for n := 1; n < window; n++ {
						hear(t, x, 0, reply(0, n, ""))
						wantSent(t, x, 0, want)
						wantTold(t, x, 0, "")
					}
				}
				if i == 0 || i >= window {
					hear(t, x, 0, reply(0, i, ""))
					first, last := i, i
					if i == 0 {
						last = window - 1
					}
					for n := first; n <= last; n++ {
						told += map[int]string{api.Lines: "done\n", api.Frames: head(2, 0, 0, 0, n), api.Lists: "+done\n"}[d]
						if n+window < all {
							want += request(api.Set, "k"+decimal(n+window), decimal(n+window), n+window)
						}
					}
				}
				wantTold(t, x, 0, told)
			}
			wantSent(t, x, 0, want)
			wantUp(t, x, 0)
		}
	}
}

// Read on, each command is sent and told ahead of the next one; what is not
// whole waits for more.
func TestReadOnOneByOne(t *testing.T) {
	x := joined(t, api.Config{Servers: 1, Points: 1, Window: 1}, api.Lines)
	say(t, x, 0, "get a\nfoo\nset x 41\nfoo\nget b\nfoo\nde")
	wantSent(t, x, 0, request(api.Get, "a", "", 0))
	hear(t, x, 0, reply(1, 0, ""))
	told := "end\nfail form\nfail big\nfail form\n"
	wantTold(t, x, 0, told)
	sent := request(api.Get, "a", "", 0) + request(api.Get, "b", "", 1)
	wantSent(t, x, 0, sent)
	hear(t, x, 0, reply(1, 1, ""))
	told += "end\nfail form\n"
	wantTold(t, x, 0, told)
	wantSent(t, x, 0, sent)
	say(t, x, 0, "l c\n")
	sent += request(api.Delete, "c", "", 2)
	wantSent(t, x, 0, sent)
	hear(t, x, 0, reply(0, 2, ""))
	wantTold(t, x, 0, told+"gone\n")
}

// Behind something fatal the client is read no more, also when places are free
// again; what waits is told still, and it at last.
func TestFatalIsToldAtLast(t *testing.T) {
	fatals := map[int]string{api.Frames: head(9, 1, 1, 0, 0), api.Lists: "x"}
	for d, f := range fatals {
		for window := 1; window <= api.MaxWindow; window++ {
			x := joined(t, api.Config{Servers: 1, Points: 1, Window: window}, d)
			text, told := "", ""
			for i := range 4 {
				text += ask(t, d, del("a"), 100+i)
			}
			say(t, x, 0, text+f+text)
			for i := range 4 {
				hear(t, x, 0, reply(0, i, ""))
				told += map[int]string{api.Frames: head(2, 0, 0, 0, 100+i), api.Lists: ":1\n"}[d]
				if i == 3 {
					told += failText(d, api.Form)
				}
				wantTold(t, x, 0, told)
				say(t, x, 0, ask(t, d, get("b"), 5))
			}
			say(t, x, 0, text)
			wantTold(t, x, 0, told)
			sent := ""
			for i := range 4 {
				sent += request(api.Delete, "a", "", i)
			}
			wantSent(t, x, 0, sent)
		}
	}
}

// An answer may be to what was sent only when the one ahead of it, in the same
// piece, was told.
func TestOneAnswerAfterTheOther(t *testing.T) {
	one := api.Config{Servers: 1, Points: 1, Window: 1}
	x := joined(t, one, api.Lines)
	say(t, x, 0, "get a\nfoo\nget b\nget c\n")
	hear(t, x, 0, reply(0, 0, "A")+reply(0, 1, "B")+reply(1, 2, ""))
	wantTold(t, x, 0, "value a 1\nA\nend\nfail form\nvalue b 1\nB\nend\nend\n")
	wantUp(t, x, 0)
	// The other way round the first one answers nothing that waits.
	y := joined(t, one, api.Lines)
	say(t, y, 0, "get a\nget b\n")
	hear(t, y, 0, reply(0, 1, "B")+reply(0, 0, "A"))
	wantDown(t, y, 0)
	wantTold(t, y, 0, "fail down\nfail down\n")
	wantSent(t, y, 0, request(api.Get, "a", "", 0))
}

// A client that is read on asks other servers, ahead of the next answer.
func TestReadOnAsksOtherServers(t *testing.T) {
	c := api.Config{Servers: 2, Points: 4, Window: 1}
	k := keysOf(t, c)
	x := joined(t, c, api.Lines, api.Lines)
	say(t, x, 0, "get "+k[0]+"\nset "+k[1]+" 1\nx\n")
	say(t, x, 1, "get "+k[0]+"\ndel "+k[1]+"\n")
	wantSent(t, x, 1, "")
	hear(t, x, 0, reply(1, 1, "")+reply(1, 0, ""))
	wantSent(t, x, 1, request(api.Delete, k[1], "", 0)+request(api.Set, k[1], "x", 1))
	hear(t, x, 1, reply(0, 1, ""))
	wantTold(t, x, 0, "end\ndone\n")
	wantTold(t, x, 1, "end\n")
}

// Each server has IDs of its own: the same one may wait for several.
func TestSameIDOfSeveralServers(t *testing.T) {
	c := api.Config{Servers: 4, Points: 4, Window: 6}
	k := keysOf(t, c)
	x := joined(t, c, api.Lines)
	say(t, x, 0, "get "+strings.Join(k, " ")+"\n")
	for _, n := range []int{2, 0, 3, 1} {
		wantTold(t, x, 0, "")
		hear(t, x, n, reply(0, 0, "of "+decimal(n)))
	}
	want := ""
	for n := range 4 {
		want += "value " + k[n] + " 4\nof " + decimal(n) + "\n"
	}
	wantTold(t, x, 0, want+"end\n")
}

// Refused, if one part is; only when all are answered.
func TestRefused(t *testing.T) {
	for _, o := range orders(3) {
		for refused := range 3 {
			x := joined(t, single, api.Lines, api.Lists)
			say(t, x, 0, "get a b c\n")
			say(t, x, 1, list("get", "a", "b", "c"))
			for _, n := range o {
				wantTold(t, x, 0, "")
				wantTold(t, x, 1, "")
				for client := range 2 {
					if n == refused {
						hear(t, x, 0, reply(2, 3*client+n, ""))
					} else {
						hear(t, x, 0, reply(0, 3*client+n, "v"))
					}
				}
			}
			wantTold(t, x, 0, "fail refused\n")
			wantTold(t, x, 1, "-refused\n")
		}
	}
}

// rightAnswers answers all that a client of one server says, the last that was
// sent first, each kind with each status in turn.
func rightAnswers(t *testing.T, c api.Config, dialect int, text string) string {
	m := newModel(c)
	m.open(t, dialect)
	m.say(t, 0, text)
	answers := ""
	for n := 0; len(m.waitingIDs(0)) > 0; n++ {
		id := slices.Max(m.waitingIDs(0))
		r := reply(n%3, id, "")
		if n%3 == 0 && m.servers[0].parts[id].kind == api.Get {
			r = reply(0, id, bytesUpTo(n%8))
		}
		m.answer(t, 0, r)
		answers += r
	}
	return answers
}

// How what a server says is cut means nothing: every cut in two, in three, and
// into single bytes; with a fault at its end, and without.
func TestAnswerCut(t *testing.T) {
	talk := map[int]string{
		api.Lines:  "get a b\nset c 1\nx\nfoo\ndel d\nget e\nget f f f f\nget g\n",
		api.Frames: head(1, 1, 1, 0, 9) + "a" + head(1, 2, 1, 2, 8) + "bxy" + head(1, 3, 1, 0, 7) + "c" + head(1, 1, 1, 0, 6) + "d",
		api.Lists:  list("get", "a") + list("oops") + list("get", "b", "c") + list("del", "d") + list("get", "e") + "*x",
	}
	for d, text := range talk {
		for _, window := range []int{1, 2, 6} {
			c := api.Config{Servers: 1, Points: 1, Window: window}
			answers := rightAnswers(t, c, d, text)
			for _, end := range []string{"", head(2, 0, 0, 41, 0) + reply(0, 7, ""), reply(0, 9999, "xyz") + reply(0, 7, "")} {
				everyCut(t, c, d, text, answers[:len(answers)/7*5]+end)
				everyCut(t, c, d, text, answers+end)
			}
		}
	}
}

func everyCut(t *testing.T, c api.Config, dialect int, text, answers string) {
	t.Helper()
	m := newModel(c)
	m.open(t, dialect)
	m.say(t, 0, text)
	m.answer(t, 0, answers)
	for i := range len(answers) + 1 {
		for _, j := range []int{i, (i + len(answers)) / 2, len(answers)} {
			x := joined(t, c, dialect)
			say(t, x, 0, text)
			for _, piece := range []string{answers[:i], answers[i:j], answers[j:]} {
				x.Answer(0, piece)
			}
			m.compare(t, x)
		}
	}
	bytewise(t, c, dialect, text, answers)
}

// bytewise holds a server that answers byte by byte against the model.
func bytewise(t *testing.T, c api.Config, dialect int, text, answers string) {
	t.Helper()
	x, m := joined(t, c, dialect), newModel(c)
	m.open(t, dialect)
	say(t, x, 0, text)
	m.say(t, 0, text)
	for i := range len(answers) {
		for _, piece := range []string{answers[i : i+1], ""} {
			if a, b := x.Answer(0, piece), m.answer(t, 0, piece); a != b {
				t.Fatalf("Answer, byte %d of %q = %d, want %d", i, answers, a, b)
			}
			m.compare(t, x)
		}
	}
}

// IDs go from 0 to 65535 and begin again; those by which a part still waits are
// passed over.
func TestIDsGoRound(t *testing.T) {
	x := joined(t, single, api.Lines, api.Lines, api.Frames)
	say(t, x, 0, "get a\n") // 0 waits for two rounds
	say(t, x, 1, "del b\n") // 1 is answered within the first
	waits := map[int]bool{0: true}
	sent := []byte(request(api.Get, "a", "", 0) + request(api.Delete, "b", "", 1))
	id := 1
	for n := range 1<<17 + 1000 {
		if n == 777 {
			hear(t, x, 0, reply(1, 1, ""))
			wantTold(t, x, 1, "none\n")
		}
		if n == 60000 {
			// Three more, of which two wait behind each other.
			say(t, x, 1, "get c d\ndel e\n")
			for i, r := range []string{request(api.Get, "c", "", id+1), request(api.Get, "d", "", id+2), request(api.Delete, "e", "", id+3)} {
				sent = append(sent, r...)
				waits[id+1+i] = i != 1
			}
			hear(t, x, 0, reply(1, id+2, ""))
			id += 3
		}
		for id = (id + 1) % (1 << 16); waits[id]; {
			id = (id + 1) % (1 << 16)
		}
		sent = append(sent, request(api.Set, "k", "", id)...)
		say(t, x, 2, head(1, 2, 1, 0, 7)+"k")
		if s, _ := x.Sent(0); len(s) != len(sent) || s[len(s)-8:] != string(sent[len(sent)-8:]) {
			t.Fatalf("command %d: sent %q, want %q", n, s[len(s)-8:], sent[len(sent)-8:])
		}
		hear(t, x, 0, reply(0, id, ""))
	}
	wantSent(t, x, 0, string(sent))
	wantTold(t, x, 2, strings.Repeat(head(2, 0, 0, 0, 7), 1<<17+1000))
	hear(t, x, 0, reply(0, 0, "still"))
	wantTold(t, x, 0, "value a 5\nstill\nend\n")
}

// Behind 65535 comes 0, if nothing waits.
func TestIDBehindTheLast(t *testing.T) {
	x := joined(t, single, api.Lines)
	for id := range 1 << 16 {
		say(t, x, 0, "del a\n")
		hear(t, x, 0, reply(1, id, ""))
	}
	s, _ := x.Sent(0)
	if want := request(api.Delete, "a", "", 65534) + request(api.Delete, "a", "", 65535); !strings.HasSuffix(s, want) {
		t.Fatalf("the last that were sent: %q, want %q", s[len(s)-16:], want)
	}
	say(t, x, 0, "get b\nget c\n")
	wantSent(t, x, 0, s+request(api.Get, "b", "", 0)+request(api.Get, "c", "", 1))
}

// Great pieces, and great many small ones, are heard to their end.
func TestAnswerMuch(t *testing.T) {
	const n = 20000
	for _, d := range dialects {
		x := joined(t, api.Config{Servers: 1, Points: 1, Window: 3}, d, d)
		say(t, x, 0, strings.Repeat(ask(t, d, get("a"), 1), n))
		answers, told := "", ""
		for i := range 100 {
			answers += reply(0, i, bytesUpTo(i%41))
			told += toldText(d, as(1, get("a")), []*modelPart{{status: 0, value: bytesUpTo(i % 41)}})
		}
		hear(t, x, 0, answers)
		wantTold(t, x, 0, told)
		var more strings.Builder
		for i := 100; i < n; i++ {
			more.WriteString(reply(1, i, ""))
		}
		text := more.String()
		hear(t, x, 0, text[:len(text)/2])
		for i := len(text) / 2; i < len(text); i++ {
			hear(t, x, 0, text[i:i+1])
		}
		none := toldText(d, as(1, get("a")), []*modelPart{{status: 1}})
		wantTold(t, x, 0, told+strings.Repeat(none, n-100))
		wantUp(t, x, 0)
		// Behind a fault as much as may come is lost.
		hear(t, x, 0, strings.Repeat("\xff", 1<<22))
		wantDown(t, x, 0)
		if e := x.Answer(0, strings.Repeat("\x02", 1<<22)); e != api.ErrDown {
			t.Fatalf("Answer of one that is down = %d", e)
		}
	}
}

// Servers that answer in any order, nonsense at times, go down and come up,
// against the model.
func TestServersAgainstModel(t *testing.T) {
	random := rand.New(rand.NewSource(7))
	for _, nonsense := range []int{0, 3, 30} {
		for range 400 {
			p := newPair(t, random)
			for range 80 {
				p.step(t, random)
				p.serve(t, random, nonsense)
				p.serve(t, random, nonsense)
			}
			for i := range p.m.servers {
				if a, b := p.x.Down(i), p.m.goDown(t, i); a != b {
					t.Fatalf("Down(%d) = %d, want %d", i, a, b)
				}
				p.m.compare(t, p.x)
			}
		}
	}
}

// Several junctions side by side, each in its own state.
func TestJunctionsSideBySide(t *testing.T) {
	random := rand.New(rand.NewSource(71))
	for range 40 {
		var pairs []*pair
		for range 5 {
			pairs = append(pairs, newPair(t, random))
		}
		for range 200 {
			pairs[random.Intn(5)].step(t, random)
			pairs[random.Intn(5)].serve(t, random, 5)
			for _, p := range pairs {
				p.m.compare(t, p.x)
			}
		}
	}
}

// Junctions that are used at the same time do not touch one another.
func TestJunctionsAtTheSameTime(t *testing.T) {
	done := make(chan string)
	run := func() {
		x, _ := junction.New(single)
		x.Open(api.Lines)
		for i := range 2000 {
			x.Say(0, "get a\n")
			x.Answer(0, reply(0, i, "v"))
		}
		s, _ := x.Told(0)
		done <- s
	}
	for range 8 {
		go run()
	}
	for range 8 {
		if s := <-done; s != strings.Repeat("value a 1\nv\nend\n", 2000) {
			t.Errorf("told beside others: %d bytes", len(s))
		}
	}
}

// No call panics, whatever numbers and texts it is given.
func TestServersNeverPanic(t *testing.T) {
	random := rand.New(rand.NewSource(72))
	numbers := []int{math.MinInt, -1, 0, 0, 0, 1, 1, 2, 3, 4, math.MaxInt}
	number := func() int { return numbers[random.Intn(len(numbers))] }
	for range 2000 {
		x := joined(t, someConfig(random), api.Lines, api.Frames, api.Lists)
		for range 40 {
			d := random.Intn(3)
			say(t, x, d, someTalk(random, dialects[d], 1))
			noise := make([]byte, random.Intn(24))
			for i := range noise {
				noise[i] = "\x00\x00\x00\x00\x01\x02\x02\x03\x28\xff"[random.Intn(10)]
			}
			if e := x.Answer(number(), string(noise)); e != api.OK && e != api.ErrArg && e != api.ErrDown {
				t.Fatalf("Answer = %d", e)
			}
			if e := x.Up(number()); e != api.OK && e != api.ErrArg && e != api.ErrUp {
				t.Fatalf("Up = %d", e)
			}
			if random.Intn(4) == 0 {
				if e := x.Down(number()); e != api.OK && e != api.ErrArg && e != api.ErrDown {
					t.Fatalf("Down = %d", e)
				}
			}
		}
	}
}
