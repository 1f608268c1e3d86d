package promises

import (
	"strings"
	"testing"

	"junction/api"
	"junction/junction"
)

// threeAsked has a client that asks one server for a Get (ID 0), a Set (1) and
// a Delete (2), and another client that asks for a Get (3).
func threeAsked(t *testing.T) *junction.Junction {
	t.Helper()
	x := joined(t, single, api.Lines, api.Lists)
	say(t, x, 0, "get a\nset b 1\nx\ndel c\n")
	say(t, x, 1, list("get", "d"))
	return x
}

// fallsAt says a fault byte by byte: it is known at this one, not earlier.
// Ahead of it nothing is told and the server is up; with it, all that waits
// fails, and all that comes behind is lost.
func fallsAt(t *testing.T, fault string, known int) {
	t.Helper()
	x := threeAsked(t)
	for i := range known {
		wantUp(t, x, 0)
		wantTold(t, x, 0, "")
		wantTold(t, x, 1, "")
		hear(t, x, 0, fault[i:i+1])
	}
	wantDown(t, x, 0)
	wantTold(t, x, 0, "fail down\nfail down\nfail down\n")
	wantTold(t, x, 1, "-down\n")
	for _, piece := range []string{"", fault[known:], reply(0, 0, "v"), reply(0, 1, "")} {
		if e := x.Answer(0, piece); e != api.ErrDown {
			t.Fatalf("behind %q: Answer(%q) = %d", fault, piece, e)
		}
	}
	// Whole, with more behind it in the same piece.
	y := threeAsked(t)
	hear(t, y, 0, fault+reply(0, 0, "v")+reply(0, 1, "")+reply(0, 2, "")+reply(0, 3, ""))
	wantDown(t, y, 0)
	wantTold(t, y, 0, "fail down\nfail down\nfail down\n")
	wantTold(t, y, 1, "-down\n")
}

// What is written wrong is known when its seven bytes have come.
func TestFaultOfTheHead(t *testing.T) {
	for n := range 256 {
		if n != 2 {
			fallsAt(t, head(n, 0, 0, 0, 0), 7)
		}
		if n > 2 {
			fallsAt(t, head(2, n, 0, 0, 0), 7)
		}
		if n > 0 {
			fallsAt(t, head(2, 0, n, 0, 0), 7)
			fallsAt(t, head(2, 0, 0, 256*n, 0), 7)
			fallsAt(t, head(2, 0, 0, 256*n+n%41, 0)+bytesUpTo(40), 7)
		}
		if n > api.MaxValue {
			fallsAt(t, head(2, 0, 0, n, 0)+bytesUpTo(n), 7)
		}
	}
	fallsAt(t, head(2, 0, 0, 65535, 0), 7)
	// As a client asks, a server may not answer.
	fallsAt(t, request(api.Get, "a", "", 0), 7)
	fallsAt(t, "get a\nget a\n", 7)
	// Whatever else is wrong, a wrong head is known ahead of that.
	fallsAt(t, head(2, 3, 0, 5, 9)+"value", 7)
	fallsAt(t, head(2, 1, 0, 41, 0)+bytesUpTo(41), 7)
}

// An ID by which no part waits is known when the answer is whole.
func TestFaultOfTheID(t *testing.T) {
	for _, id := range []int{4, 5, 255, 256, 257, 512, 32768, 65535} {
		for status := range 3 {
			for _, value := range []string{"", "v", bytesUpTo(api.MaxValue)} {
				fault := reply(status, id, value)
				fallsAt(t, fault, len(fault))
			}
		}
	}
}

// A value though it answers no Get with the status 0 is known when it is whole.
func TestFaultOfTheValue(t *testing.T) {
	for _, value := range []string{"v", "\n", bytesUpTo(api.MaxValue)} {
		for _, fault := range []string{
			reply(1, 0, value), reply(2, 0, value), reply(1, 3, value), reply(2, 3, value),
			reply(0, 1, value), reply(1, 1, value), reply(2, 1, value),
			reply(0, 2, value), reply(1, 2, value), reply(2, 2, value),
		} {
			fallsAt(t, fault, len(fault))
		}
	}
}

// A part is answered once: then no part waits by its ID.
func TestAnsweredTwice(t *testing.T) {
	for id, r := range []string{reply(0, 0, "v"), reply(0, 1, ""), reply(1, 2, ""), reply(2, 3, "")} {
		x := threeAsked(t)
		hear(t, x, 0, r)
		wantUp(t, x, 0)
		hear(t, x, 0, r)
		wantDown(t, x, 0)
		lines := []string{"value a 1\nv\nend\n", "done\n", "none\n", "fail down\n"}
		want := ""
		for i := range 3 {
			if i == id {
				want += lines[i]
			} else {
				want += "fail down\n"
			}
		}
		wantTold(t, x, 0, want)
		wantTold(t, x, 1, map[bool]string{true: "-refused\n", false: "-down\n"}[id == 3])
	}
}

// An ID that waits for another server is none of this one.
func TestIDOfAnotherServer(t *testing.T) {
	c := api.Config{Servers: 2, Points: 5, Window: 6}
	k := keysOf(t, c)
	x := joined(t, c, api.Lines)
	say(t, x, 0, "get "+k[0]+"\nget "+k[1]+" "+k[1]+"\n")
	hear(t, x, 0, reply(0, 1, "v"))
	wantDown(t, x, 0)
	wantUp(t, x, 1)
	wantTold(t, x, 0, "fail down\n")
	hear(t, x, 1, reply(0, 1, "v"), reply(1, 0, ""))
	wantTold(t, x, 0, "fail down\nvalue "+k[1]+" 1\nv\nend\n")
}

// What was answered ahead of a fault, in the same piece, counts.
func TestAheadOfAFault(t *testing.T) {
	for _, fault := range []string{head(9, 0, 0, 0, 0), reply(0, 77, ""), reply(1, 2, "v")} {
		x := threeAsked(t)
		hear(t, x, 0, reply(0, 1, "")+reply(0, 3, "four")+fault+reply(0, 0, "v"))
		wantDown(t, x, 0)
		wantTold(t, x, 0, "fail down\ndone\nfail down\n")
		wantTold(t, x, 1, "$4\nfour\n")
	}
}

// What is read on because of an answer, and sent, fails with a fault behind it.
func TestFaultBehindReadOn(t *testing.T) {
	x := joined(t, api.Config{Servers: 1, Points: 1, Window: 1}, api.Lines)
	say(t, x, 0, "get a\nget b\nget c\n")
	hear(t, x, 0, reply(0, 0, "v")+"\xff\xff\xff\xff\xff\xff\xff")
	wantTold(t, x, 0, "value a 1\nv\nend\nfail down\nfail down\n")
	wantSent(t, x, 0, request(api.Get, "a", "", 0)+request(api.Get, "b", "", 1))
}

// takeDown takes a server down, by the call or by a fault.
func takeDown(t *testing.T, x *junction.Junction, server int, fault bool) {
	t.Helper()
	if fault {
		hear(t, x, server, head(0, 0, 0, 0, 0))
	} else {
		goDown(t, x, server)
	}
	wantDown(t, x, server)
}

// Only what waits for the server that goes down fails; a Get waits for its
// other parts.
func TestDownFailsItsOwn(t *testing.T) {
	c := api.Config{Servers: 3, Points: 4, Window: 6}
	k := keysOf(t, c)
	for _, fault := range []bool{false, true} {
		x := joined(t, c, api.Lines, api.Frames, api.Lists)
		say(t, x, 0, "get "+k[0]+" "+k[1]+" "+k[2]+"\nget "+k[1]+"\n")
		say(t, x, 1, request(api.Get, k[1], "", 300)+request(api.Delete, k[0], "", 301))
		say(t, x, 2, list("set", k[1], "v")+list("get", k[2])+list("oops"))
		hear(t, x, 0, reply(0, 0, "zero"))
		takeDown(t, x, 1, fault)
		wantTold(t, x, 0, "")
		wantTold(t, x, 1, head(2, 2, 0, 0, 300))
		wantTold(t, x, 2, "-down\n")
		wantUp(t, x, 0)
		wantUp(t, x, 2)
		hear(t, x, 2, reply(0, 0, "two"))
		wantTold(t, x, 0, "fail down\nfail down\n")
		hear(t, x, 0, reply(0, 1, ""))
		wantTold(t, x, 1, head(2, 2, 0, 0, 300)+head(2, 0, 0, 0, 301))
		hear(t, x, 2, reply(1, 1, ""))
		wantTold(t, x, 2, "-down\n$-1\n-data\n")
	}
}

// What goes to a server that is down fails at once, and nothing is sent.
func TestAskedWhileDown(t *testing.T) {
	c := api.Config{Servers: 2, Points: 4, Window: 2}
	k := keysOf(t, c)
	for _, fault := range []bool{false, true} {
		x := joined(t, c, api.Lines, api.Frames, api.Lists)
		takeDown(t, x, 0, fault)
		for i := range 10 {
			say(t, x, 0, "get "+k[0]+"\nset "+k[0]+" 1\nx\nfoo\n")
			say(t, x, 1, request(api.Delete, k[0], "", 600))
			say(t, x, 2, list("get", k[0], k[0])+list("del", k[0]))
			wantTold(t, x, 0, strings.Repeat("fail down\nfail down\nfail form\n", i+1))
			wantTold(t, x, 1, strings.Repeat(head(2, 2, 0, 0, 600), i+1))
			wantTold(t, x, 2, strings.Repeat("-down\n-down\n", i+1))
		}
		wantSent(t, x, 0, "")
		wantSent(t, x, 1, "")
		// A Get of which one part is sent waits for that.
		told, _ := x.Told(0)
		say(t, x, 0, "get "+k[1]+" "+k[0]+" "+k[1]+"\nget "+k[0]+"\nget "+k[1]+"\n")
		wantTold(t, x, 0, told)
		sent := request(api.Get, k[1], "", 0) + request(api.Get, k[1], "", 1)
		wantSent(t, x, 1, sent)
		hear(t, x, 1, reply(0, 1, "v"))
		wantTold(t, x, 0, told)
		hear(t, x, 1, reply(0, 0, "v"))
		wantTold(t, x, 0, told+"fail down\nfail down\n")
		wantSent(t, x, 1, sent+request(api.Get, k[1], "", 2))
		wantSent(t, x, 0, "")
	}
}

// When a server goes down, what waits behind the window is read on: what is
// for that server fails at once, what is for another one is sent.
func TestDownReadsOn(t *testing.T) {
	c := api.Config{Servers: 2, Points: 4, Window: 2}
	k := keysOf(t, c)
	for _, fault := range []bool{false, true} {
		x := joined(t, c, api.Lines)
		say(t, x, 0, strings.Repeat("get "+k[0]+"\n", 5)+"foo\nget "+k[1]+"\n"+strings.Repeat("del "+k[0]+"\n", 5)+"del "+k[1]+"\nget "+k[0])
		takeDown(t, x, 0, fault)
		told := strings.Repeat("fail down\n", 5) + "fail form\n"
		wantTold(t, x, 0, told)
		wantSent(t, x, 0, request(api.Get, k[0], "", 0)+request(api.Get, k[0], "", 1))
		wantSent(t, x, 1, request(api.Get, k[1], "", 0))
		hear(t, x, 1, reply(1, 0, ""))
		told += "end\n" + strings.Repeat("fail down\n", 5)
		wantTold(t, x, 0, told)
		wantSent(t, x, 1, request(api.Get, k[1], "", 0)+request(api.Delete, k[1], "", 1))
		say(t, x, 0, "\n")
		wantTold(t, x, 0, told)
		hear(t, x, 1, reply(0, 1, ""))
		wantTold(t, x, 0, told+"gone\nfail down\n")
	}
}

// Clients are told and read on by their numbers, one after the other: so are
// the IDs of what they then ask another server for, in whatever order they had
// asked the one that went down.
func TestDownReadsOnByNumbers(t *testing.T) {
	c := api.Config{Servers: 2, Points: 4, Window: 3}
	k := keysOf(t, c)
	kinds := []int{api.Lists, api.Lines, api.Frames, api.Lines}
	for _, o := range orders(4) {
		for _, fault := range []bool{false, true} {
			x := joined(t, c, kinds...)
			for _, client := range o {
				value := decimal(client)
				for _, command := range []api.Command{
					get(k[0]), del(k[0]), get(k[0]), // wait
					set(k[1], value+"a"), get(k[0]), set(k[1], value+"b"), // are read on
					set(k[1], value+"c"),
				} {
					say(t, x, client, ask(t, kinds[client], command, 1))
				}
			}
			wantSent(t, x, 1, "")
			takeDown(t, x, 0, fault)
			sent := ""
			for client := range 4 {
				sent += request(api.Set, k[1], decimal(client)+"a", 2*client)
				sent += request(api.Set, k[1], decimal(client)+"b", 2*client+1)
			}
			wantSent(t, x, 1, sent)
			for i, client := range o {
				hear(t, x, 1, reply(0, 2*client, ""))
				sent += request(api.Set, k[1], decimal(client)+"c", 8+i)
				wantSent(t, x, 1, sent)
			}
		}
	}
}

// A part that has failed goes ahead of one that was refused, whichever was
// first; also if it failed as soon as it was read.
func TestDownAheadOfRefused(t *testing.T) {
	c := api.Config{Servers: 2, Points: 4, Window: 2}
	k := keysOf(t, c)
	for d, want := range map[int]string{api.Lines: "fail down\n", api.Lists: "-down\n"} {
		for _, keys := range [][]string{{k[0], k[1]}, {k[1], k[0]}, {k[1], k[0], k[1]}, {k[0], k[1], k[1], k[0]}} {
			refused := 0
			for _, key := range keys {
				if key == k[1] {
					refused++
				}
			}
			for when := range 3 {
				x := joined(t, c, d)
				if when == 0 {
					goDown(t, x, 0)
				}
				say(t, x, 0, ask(t, d, get(keys...), 0))
				if when == 1 {
					goDown(t, x, 0)
				}
				for id := range refused {
					wantTold(t, x, 0, "")
					hear(t, x, 1, reply(2, id, ""))
				}
				if when == 2 {
					wantTold(t, x, 0, "")
					goDown(t, x, 0)
				}
				wantTold(t, x, 0, want)
			}
		}
	}
}

// A server that is down refuses what comes, and to go down again; nothing of
// that counts when it is up.
func TestDownTwice(t *testing.T) {
	for _, fault := range []bool{false, true} {
		x := joined(t, single, api.Lines)
		say(t, x, 0, "get a\n")
		takeDown(t, x, 0, fault)
		for _, piece := range []string{"", "\x02", reply(0, 0, "v"), reply(0, 1, ""), head(9, 9, 9, 9, 9)} {
			if e := x.Answer(0, piece); e != api.ErrDown {
				t.Fatalf("Answer(%q) of one that is down = %d", piece, e)
			}
			if e := x.Down(0); e != api.ErrDown {
				t.Fatalf("Down of one that is down = %d", e)
			}
		}
		wantTold(t, x, 0, "fail down\n")
		goUp(t, x, 0)
		say(t, x, 0, "get b\n")
		hear(t, x, 0, reply(0, 1, "w"))
		wantTold(t, x, 0, "fail down\nvalue b 1\nw\nend\n")
		wantUp(t, x, 0)
	}
}

// Up of one that is up changes nothing: what waits goes on waiting, what came
// of an answer still counts.
func TestUpTwice(t *testing.T) {
	x := joined(t, single, api.Lines)
	wantUp(t, x, 0)
	say(t, x, 0, "get a\n")
	r := reply(0, 0, "value")
	for i := range len(r) {
		wantUp(t, x, 0)
		hear(t, x, 0, r[i:i+1])
	}
	wantTold(t, x, 0, "value a 5\nvalue\nend\n")
	goDown(t, x, 0)
	goUp(t, x, 0)
	wantUp(t, x, 0)
	say(t, x, 0, "get b\n")
	wantSent(t, x, 0, request(api.Get, "a", "", 0)+request(api.Get, "b", "", 1))
}

// What came of an answer ahead of going down does not count behind it.
func TestUpForgetsWhatCame(t *testing.T) {
	answer := reply(0, 0, "value")
	for n := range len(answer) {
		x := joined(t, single, api.Lines)
		say(t, x, 0, "get a\n")
		hear(t, x, 0, answer[:n])
		goDown(t, x, 0)
		wantTold(t, x, 0, "fail down\n")
		goUp(t, x, 0)
		say(t, x, 0, "get b\n")
		hear(t, x, 0, reply(0, 1, "w"))
		wantTold(t, x, 0, "fail down\nvalue b 1\nw\nend\n")
		wantUp(t, x, 0)
	}
	// So with what stands behind a fault.
	for n := range len(answer) + 1 {
		x := joined(t, single, api.Lines)
		hear(t, x, 0, head(2, 0, 1, 0, 0)+answer[:n])
		goUp(t, x, 0)
		say(t, x, 0, "get a\n")
		wantTold(t, x, 0, "")
		hear(t, x, 0, answer)
		wantTold(t, x, 0, "value a 5\nvalue\nend\n")
	}
}

// Nothing of what was sent ahead of going down waits behind it, and its IDs go
// on: a late answer is one by which no part waits.
func TestUpForgetsWhatWaited(t *testing.T) {
	for _, fault := range []bool{false, true} {
		for late := range 4 {
			x := threeAsked(t)
			takeDown(t, x, 0, fault)
			say(t, x, 0, "get z\n") // fails at once, and takes no ID
			goUp(t, x, 0)
			sent, _ := x.Sent(0)
			say(t, x, 0, "get e\n")
			wantSent(t, x, 0, sent+request(api.Get, "e", "", 4))
			told := strings.Repeat("fail down\n", 4)
			wantTold(t, x, 0, told)
			hear(t, x, 0, reply(0, late, ""))
			wantDown(t, x, 0)
			wantTold(t, x, 0, told+"fail down\n")
			wantTold(t, x, 1, "-down\n")
			goUp(t, x, 0)
			say(t, x, 1, list("del", "f"))
			hear(t, x, 0, reply(0, 5, ""))
			wantTold(t, x, 1, "-down\n:1\n")
		}
	}
}

// To go up tells nothing and sends nothing: what failed has failed.
func TestUpTellsNothing(t *testing.T) {
	c := api.Config{Servers: 2, Points: 4, Window: 1}
	k := keysOf(t, c)
	x := joined(t, c, api.Lines)
	say(t, x, 0, "get "+k[0]+" "+k[1]+"\nget "+k[0]+"\n")
	goDown(t, x, 0)
	goUp(t, x, 0)
	wantTold(t, x, 0, "")
	wantSent(t, x, 0, request(api.Get, k[0], "", 0))
	wantSent(t, x, 1, request(api.Get, k[1], "", 0))
	hear(t, x, 1, reply(0, 0, "v"))
	wantTold(t, x, 0, "fail down\n")
	wantSent(t, x, 0, request(api.Get, k[0], "", 0)+request(api.Get, k[0], "", 1))
}

// IDs go round also if a server goes down in between; what waited then is not
// passed over.
func TestIDsGoRoundThroughDown(t *testing.T) {
	x := joined(t, single, api.Frames, api.Frames)
	say(t, x, 1, request(api.Get, "w", "", 9)) // waits by 0
	for id := 1; id < 1<<16; id++ {
		say(t, x, 0, request(api.Get, "k", "", 9))
		if id == 30000 {
			goDown(t, x, 0)
			goUp(t, x, 0)
			continue
		}
		hear(t, x, 0, reply(1, id, ""))
	}
	sent, _ := x.Sent(0)
	say(t, x, 0, request(api.Get, "k", "", 9))
	wantSent(t, x, 0, sent+request(api.Get, "k", "", 0))
	hear(t, x, 0, reply(0, 0, "k"))
	wantTold(t, x, 1, head(2, 2, 0, 0, 9))
}

// A server that has nothing to answer may not answer; it goes down alone.
func TestFaultWithoutClients(t *testing.T) {
	x := joined(t, api.Config{Servers: 2, Points: 1, Window: 1})
	hear(t, x, 0, reply(0, 0, ""))
	wantDown(t, x, 0)
	wantUp(t, x, 1)
	goDown(t, x, 1)
	goUp(t, x, 0)
	wantDown(t, x, 1)
	hear(t, x, 0, "\x02\x00\x00\x00\x00\x00", "")
	wantUp(t, x, 0)
}
