package promises

import (
	"math"
	"math/rand"
	"slices"
	"strings"
	"testing"

	"junction/api"
	"junction/junction"
)

func newRefused(t *testing.T, c api.Config) {
	t.Helper()
	if x, e := junction.New(c); x != nil || e != api.ErrArg {
		t.Errorf("New(%+v) = %v, %d, want ErrArg", c, x, e)
	}
}

func TestNewBounds(t *testing.T) {
	for _, n := range []int{math.MinInt, -1 << 32, -1, 0, 1, 2, 3, 4, 5, 6, 7, 8, 15, 16, 17, 257, 1<<32 + 1, math.MaxInt} {
		for _, b := range []struct {
			c    api.Config
			most int
		}{
			{api.Config{Servers: n, Points: 1, Window: 1}, 4}, {api.Config{Servers: n, Points: 16, Window: 6}, 4},
			{api.Config{Servers: 1, Points: n, Window: 1}, 16}, {api.Config{Servers: 4, Points: n, Window: 6}, 16},
			{api.Config{Servers: 1, Points: 1, Window: n}, 6}, {api.Config{Servers: 4, Points: 16, Window: n}, 6},
		} {
			if n < 1 || n > b.most {
				newRefused(t, b.c)
			} else {
				joined(t, b.c)
			}
		}
	}
	newRefused(t, api.Config{})
	newRefused(t, api.Config{Servers: -1, Points: -1, Window: -1})
}

// A new junction has no clients, and as many servers as it was told.
func TestNewIsEmpty(t *testing.T) {
	for servers := 1; servers <= api.MaxServers; servers++ {
		x := joined(t, api.Config{Servers: servers, Points: 3, Window: 2})
		for i := range api.MaxServers + 1 {
			if e := x.Say(i, "get a\n"); e != api.ErrArg {
				t.Errorf("Say(%d) without clients = %d", i, e)
			}
			if s, e := x.Told(i); s != "" || e != api.ErrArg {
				t.Errorf("Told(%d) without clients = %q, %d", i, s, e)
			}
			if i < servers {
				wantSent(t, x, i, "")
			} else if s, e := x.Sent(i); s != "" || e != api.ErrArg {
				t.Errorf("%d servers: Sent(%d) = %q, %d", servers, i, s, e)
			}
		}
	}
}

func TestOpenBounds(t *testing.T) {
	wrongs := []int{math.MinInt, -1, 0, 4, 5, 257, math.MaxInt}
	for _, d := range dialects {
		x := joined(t, api.Config{Servers: 2, Points: 2, Window: 2})
		for want := range api.MaxClients {
			for _, w := range wrongs {
				if n, e := x.Open(w); n != 0 || e != api.ErrArg {
					t.Errorf("Open(%d) = %d, %d", w, n, e)
				}
			}
			if e := x.Say(want, "get a\n"); e != api.ErrArg {
				t.Errorf("Say of client %d ahead of its Open = %d", want, e)
			}
			if n, e := x.Open(d); n != want || e != api.OK {
				t.Errorf("Open(%d) = %d, %d, want %d", d, n, e, want)
			}
			wantTold(t, x, want, "")
		}
		for _, n := range append(wrongs, dialects...) {
			if n, e := x.Open(n); n != 0 || e != api.ErrArg {
				t.Errorf("Open of a client too many = %d, %d", n, e)
			}
		}
		if e := x.Say(api.MaxClients, "get a\n"); e != api.ErrArg {
			t.Errorf("Say of a client too many = %d", e)
		}
		wantSent(t, x, 0, "")
		wantSent(t, x, 1, "")
	}
}

// What one says whom there is not changes nothing.
func TestSayOfNoClient(t *testing.T) {
	c := api.Config{Servers: 1, Points: 1, Window: 6}
	x := joined(t, c, api.Lines, api.Lines)
	say(t, x, 0, "get ")
	for _, n := range []int{math.MinInt, -1, 2, 3, 4, 1 << 32, math.MaxInt} {
		if e := x.Say(n, "a\nfoo\n"); e != api.ErrArg {
			t.Errorf("Say(%d) = %d", n, e)
		}
	}
	wantSent(t, x, 0, "")
	say(t, x, 0, "b\n")
	wantSent(t, x, 0, request(api.Get, "b", "", 0))
	wantTold(t, x, 0, "")
	wantTold(t, x, 1, "")
	if n, e := x.Open(api.Lists); n != 2 || e != api.OK {
		t.Errorf("Open = %d, %d, want 2", n, e)
	}
}

// ask is a command as a client says it, and what servers are sent for it.
func ask(t *testing.T, dialect int, c api.Command, id int) string {
	t.Helper()
	s, e := junction.Ask(dialect, c, id)
	if e != api.OK {
		t.Fatalf("Ask(%d, %+v, %d) = %d", dialect, c, id, e)
	}
	return s
}

// Every command is sent as it is read, with the server's ID and not the client's.
func TestEachCommandIsSent(t *testing.T) {
	all := bytesUpTo(api.MaxValue)
	for _, d := range dialects {
		for _, c := range []api.Command{get("a"), get("abcdefgh"), set("a", ""), set("a", "\n"), set("abcdefgh", all), del("a"), del("01234567"), get("0")} {
			x := joined(t, api.Config{Servers: 1, Points: 1, Window: 2}, d)
			text := ask(t, d, c, 777)
			say(t, x, 0, text[:len(text)-1])
			wantSent(t, x, 0, "")
			say(t, x, 0, text[len(text)-1:])
			want := request(c.Kind, c.Keys[0], c.Value, 0)
			wantSent(t, x, 0, want)
			say(t, x, 0, text)
			wantSent(t, x, 0, want+request(c.Kind, c.Keys[0], c.Value, 1))
			wantTold(t, x, 0, "")
		}
	}
}

// If Window commands wait, nothing more is read, neither now nor later.
func TestWindow(t *testing.T) {
	for _, d := range dialects {
		for window := 1; window <= api.MaxWindow; window++ {
			for _, together := range []bool{true, false} {
				x := joined(t, api.Config{Servers: 1, Points: 1, Window: window}, d, d)
				var pieces []string
				want := ""
				for i := range 2 * api.MaxWindow {
					c := []api.Command{get("a"), set("b", "v"), del("c")}[i%3]
					pieces = append(pieces, ask(t, d, c, i))
					if i < window {
						want += request(c.Kind, c.Keys[0], c.Value, i)
					}
				}
				if together {
					pieces = []string{strings.Join(pieces, "")}
				}
				say(t, x, 0, pieces...)
				say(t, x, 0, "", "", "\n", "foo\n", "\xff")
				wantSent(t, x, 0, want)
				wantTold(t, x, 0, "")
				// Another client has its own window.
				say(t, x, 1, ask(t, d, get("z"), 0))
				wantSent(t, x, 0, want+request(api.Get, "z", "", window))
			}
		}
	}
}

// A Get of several keys is one that waits, however many parts it has.
func TestWindowCountsCommands(t *testing.T) {
	for _, d := range []int{api.Lines, api.Lists} {
		x := joined(t, api.Config{Servers: 1, Points: 1, Window: 2}, d)
		four := ask(t, d, get("a", "b", "c", "d"), 0)
		say(t, x, 0, four+four+four)
		want := ""
		for i := range 8 {
			want += request(api.Get, string(rune('a'+i%4)), "", i)
		}
		wantSent(t, x, 0, want)
	}
}

// What is wrong is told at once if nothing waits, and takes no place then.
func TestWrongIsToldAtOnce(t *testing.T) {
	for window := 1; window <= api.MaxWindow; window++ {
		x := joined(t, api.Config{Servers: 1, Points: 1, Window: window}, api.Lines, api.Lists)
		lines, lists := "", ""
		for range 3 {
			for _, i := range lineItems() {
				if i.c.Kind == api.Wrong {
					say(t, x, 0, i.text)
					lines += failText(api.Lines, i.c.Word)
					wantTold(t, x, 0, lines)
				}
			}
			for _, i := range listItems() {
				if i.c.Kind == api.Wrong {
					say(t, x, 1, i.text)
					lists += failText(api.Lists, i.c.Word)
					wantTold(t, x, 1, lists)
				}
			}
		}
		wantSent(t, x, 0, "")
		say(t, x, 0, "get a\n")
		say(t, x, 1, list("get", "b"))
		wantSent(t, x, 0, request(api.Get, "a", "", 0)+request(api.Get, "b", "", 1))
	}
}

// A wrong line is told as soon as it is known.
func TestWrongIsToldWhenKnown(t *testing.T) {
	x := joined(t, api.Config{Servers: 1, Points: 1, Window: 1}, api.Lines)
	say(t, x, 0, strings.Repeat("x", api.MaxLine))
	wantTold(t, x, 0, "")
	say(t, x, 0, "x")
	wantTold(t, x, 0, "fail long\n")
	say(t, x, 0, "get a", "\n", "set a 2\n", "xy")
	wantTold(t, x, 0, "fail long\n")
	say(t, x, 0, "z")
	wantTold(t, x, 0, "fail long\nfail data\n")
	say(t, x, 0, "get a\n")
	wantSent(t, x, 0, "")
	say(t, x, 0, "get a\n")
	wantSent(t, x, 0, request(api.Get, "a", "", 0))
	wantTold(t, x, 0, "fail long\nfail data\n")
}

// Behind what waits something wrong waits too, and has a place.
func TestWrongWaitsInItsTurn(t *testing.T) {
	for window := 1; window <= api.MaxWindow; window++ {
		for wrongs := range api.MaxWindow {
			x := joined(t, api.Config{Servers: 1, Points: 1, Window: window}, api.Lines, api.Lists)
			say(t, x, 0, "foo\nget a\n"+strings.Repeat("foo\n", wrongs)+"get b\n")
			say(t, x, 1, list("")+list("get", "c")+strings.Repeat(list("get"), wrongs)+list("get", "d"))
			wantTold(t, x, 0, "fail form\n")
			wantTold(t, x, 1, "-data\n")
			want := request(api.Get, "a", "", 0) + request(api.Get, "c", "", 1)
			if wrongs+2 <= window {
				want = request(api.Get, "a", "", 0) + request(api.Get, "b", "", 1) + request(api.Get, "c", "", 2) + request(api.Get, "d", "", 3)
			}
			wantSent(t, x, 0, want)
		}
	}
}

// Behind something fatal nothing is read; it is told, if nothing waits.
func TestFatal(t *testing.T) {
	for _, d := range []int{api.Frames, api.Lists} {
		for _, i := range itemsOf(d) {
			if !i.c.Fatal {
				continue
			}
			x := joined(t, api.Config{Servers: 1, Points: 1, Window: 2}, d, d)
			say(t, x, 0, i.text[:i.known-1])
			wantTold(t, x, 0, "")
			say(t, x, 0, i.text[i.known-1:])
			told := failText(d, api.Form)
			wantTold(t, x, 0, told)
			for range 2 {
				say(t, x, 0, ask(t, d, get("a"), 5), i.text)
			}
			wantTold(t, x, 0, told)
			wantSent(t, x, 0, "")
			say(t, x, 1, ask(t, d, get("b"), 5))
			wantSent(t, x, 0, request(api.Get, "b", "", 0))
		}
	}
}

// Something fatal waits behind what waits, and what stands behind it is lost
// even though a place is left.
func TestFatalWaitsInItsTurn(t *testing.T) {
	fatals := map[int]string{api.Frames: head(9, 1, 1, 0, 0), api.Lists: "x"}
	for d, f := range fatals {
		for window := 1; window <= api.MaxWindow; window++ {
			x := joined(t, api.Config{Servers: 1, Points: 1, Window: window}, d)
			say(t, x, 0, ask(t, d, get("a"), 5)+f+ask(t, d, get("b"), 6), ask(t, d, get("c"), 7))
			wantTold(t, x, 0, "")
			wantSent(t, x, 0, request(api.Get, "a", "", 0))
		}
	}
}

// The parts of a Get go to the owners of their keys, in the order of the keys,
// also if one comes twice; each server has IDs of its own.
func TestPartsOfAGet(t *testing.T) {
	keys := []string{"a", "b", "c", "dd0", "e", "k20", "x9", "h", "a", "a", "a", "b", "12345678", "0", "12345678", "zz"}
	for servers := 1; servers <= api.MaxServers; servers++ {
		for _, points := range []int{1, 2, 7, 16} {
			for _, d := range []int{api.Lines, api.Lists} {
				c := api.Config{Servers: servers, Points: points, Window: 6}
				x := joined(t, c, d)
				want, ids := make([]string, servers), make([]int, servers)
				for four := range slices.Chunk(keys, 4) {
					say(t, x, 0, ask(t, d, get(four...), 0))
					for _, k := range four {
						o := owner(t, c, k)
						want[o] += request(api.Get, k, "", ids[o])
						ids[o]++
					}
					for o := range servers {
						wantSent(t, x, o, want[o])
					}
				}
			}
		}
	}
}

// The IDs follow the order in which commands are sent, whoever asked.
func TestIDsOfManyClients(t *testing.T) {
	x := joined(t, api.Config{Servers: 1, Points: 4, Window: 6}, api.Lists, api.Frames, api.Lines, api.Frames)
	kinds := []int{api.Lists, api.Frames, api.Lines, api.Frames}
	want := ""
	for i := range 4 * api.MaxWindow {
		client := (i * 3) % 4
		c := set("k"+decimal(i), decimal(1000-i))
		say(t, x, client, ask(t, kinds[client], c, 65535-i))
		want += request(api.Set, "k"+decimal(i), decimal(1000-i), i)
		wantSent(t, x, 0, want)
	}
	for i := range 4 {
		say(t, x, i, ask(t, kinds[i], get("more"), 0))
		wantTold(t, x, i, "")
	}
	wantSent(t, x, 0, want)
}

// All parts that can wait at once: each has an ID of its own.
func TestAllPartsThatCanWait(t *testing.T) {
	x := joined(t, api.Config{Servers: 1, Points: 1, Window: 6}, api.Lines, api.Lists, api.Lines, api.Lists)
	want := ""
	for i := range api.MaxWindow {
		for client := range 4 {
			say(t, x, client, ask(t, []int{api.Lines, api.Lists}[client%2], get("a", "b", "c", "d"), 0))
			for k := range 4 {
				want += request(api.Get, string(rune('a'+k)), "", (i*4+client)*4+k)
			}
		}
	}
	wantSent(t, x, 0, want)
}

// How what a client says is cut means nothing: every cut in two, in three, and
// into single bytes.
func TestSayCut(t *testing.T) {
	texts := map[int]string{
		api.Lines:  "foo\nset a 41\nget a b\nset b 3\nx\ny\nset a 1\nxyz\ndel c\nget\n" + strings.Repeat("x", 70) + "\nget d d\nget e\nget f\n",
		api.Frames: textOf(frameItems()[:5]) + head(1, 3, 1, 0, 4) + "A" + head(1, 1, 1, 0, 4) + "b",
		api.Lists:  list("get") + list("x") + list("get", "a", "b") + list("set", "b", "x\ny") + list("del") + list("del", "c") + "*2\n$3x" + list("get", "d"),
	}
	for d, text := range texts {
		for _, window := range []int{2, 6} {
			c := api.Config{Servers: 3, Points: 5, Window: window}
			m := newModel(c)
			m.open(t, d)
			m.say(t, 0, text)
			for i := range len(text) + 1 {
				for _, j := range []int{i, (i + len(text)) / 2, len(text)} {
					x := joined(t, c, d)
					say(t, x, 0, text[:i], text[i:j], text[j:])
					m.compare(t, x)
				}
			}
			single, steps := joined(t, c, d), newModel(c)
			steps.open(t, d)
			for i := range len(text) {
				say(t, single, 0, text[i:i+1], "")
				steps.say(t, 0, text[i:i+1])
				steps.compare(t, single)
			}
			m.compare(t, single)
		}
	}
}

// Several clients of all dialects, in pieces, against the model.
func TestManyClients(t *testing.T) {
	random := rand.New(rand.NewSource(6))
	for range 1500 {
		p := newPair(t, random)
		for p.step(t, random) {
		}
	}
}
