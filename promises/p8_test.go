package promises

import (
	"math"
	"math/rand"
	"strings"
	"testing"

	"junction/api"
	"junction/junction"
)

func TestToldAndSentOfNobody(t *testing.T) {
	x := joined(t, api.Config{Servers: 3, Points: 2, Window: 2}, api.Lines, api.Frames)
	say(t, x, 0, "foo\nget a b c d\n")
	for _, n := range []int{math.MinInt, -1 << 32, -1, 4, 5, 1 << 32, math.MaxInt} {
		if s, e := x.Told(n); s != "" || e != api.ErrArg {
			t.Errorf("Told(%d) = %q, %d", n, s, e)
		}
		if s, e := x.Sent(n); s != "" || e != api.ErrArg {
			t.Errorf("Sent(%d) = %q, %d", n, s, e)
		}
	}
	if s, e := x.Told(2); s != "" || e != api.ErrArg {
		t.Errorf("Told(2) of two clients = %q, %d", s, e)
	}
	if s, e := x.Sent(3); s != "" || e != api.ErrArg {
		t.Errorf("Sent(3) of three servers = %q, %d", s, e)
	}
	wantTold(t, x, 0, "fail form\n")
	wantTold(t, x, 1, "")
}

// All is told from the beginning, as often as it is asked; what came out
// earlier stays, and asking changes nothing.
func TestToldAndSentFromTheBeginning(t *testing.T) {
	x := joined(t, api.Config{Servers: 1, Points: 1, Window: 6}, api.Lines, api.Lines)
	var told, sent []string
	for i := range 500 {
		say(t, x, 0, "foo\nset a 41\n")
		if i < api.MaxWindow {
			say(t, x, 1, "get k"+decimal(i)+"\n")
		}
		for range 2 {
			s, _ := x.Told(0)
			u, _ := x.Sent(0)
			told, sent = append(told, s), append(sent, u)
		}
	}
	for i := range told {
		n := i/2 + 1
		if told[i] != strings.Repeat("fail form\nfail big\n", n) {
			t.Fatalf("Told behind %d = %q", n, told[i])
		}
		want := ""
		for k := range min(n, api.MaxWindow) {
			want += request(api.Get, "k"+decimal(k), "", k)
		}
		if sent[i] != want {
			t.Fatalf("Sent behind %d = %q, want %q", n, sent[i], want)
		}
	}
}

// A client is told what it said alone, a server sent what is its own.
func TestToldToEachItsOwn(t *testing.T) {
	x := joined(t, api.Config{Servers: 4, Points: 16, Window: 6}, api.Lines, api.Lists, api.Frames, api.Lines)
	say(t, x, 0, "foo\n")
	say(t, x, 1, list("foo"))
	say(t, x, 2, head(9, 9, 9, 9, 9))
	say(t, x, 3, "set a 41\n")
	wantTold(t, x, 0, "fail form\n")
	wantTold(t, x, 1, "-data\n")
	wantTold(t, x, 2, head(2, 2, 0, 0, 0))
	wantTold(t, x, 3, "fail big\n")
	for i := range 4 {
		wantSent(t, x, i, "")
	}
}

// Junctions and readers do not touch one another.
func TestJunctionsAlone(t *testing.T) {
	random := rand.New(rand.NewSource(8))
	for range 100 {
		var pairs []*pair
		for range 5 {
			pairs = append(pairs, newPair(t, random))
		}
		r := reader(t, api.Lines)
		for range 60 {
			pairs[random.Intn(5)].step(t, random)
			if l := r.Feed("get a\nde"); !same(l, []api.Command{get("a")}) || r.Rest() != 2 {
				t.Fatalf("a reader beside junctions: %+v, rest %d", l, r.Rest())
			}
			if l := r.Feed("l b\n"); !same(l, []api.Command{del("b")}) || r.Rest() != 0 {
				t.Fatalf("a reader beside junctions: %+v, rest %d", l, r.Rest())
			}
			for _, p := range pairs {
				p.m.compare(t, p.x)
			}
		}
	}
}

// Two junctions to which the same is said tell the same.
func TestJunctionsAlike(t *testing.T) {
	random := rand.New(rand.NewSource(9))
	for range 200 {
		c := someConfig(random)
		one, other := joined(t, c, dialects...), joined(t, c, dialects...)
		for range 20 {
			i := random.Intn(len(dialects))
			text := someTalk(random, dialects[i], 2)
			say(t, one, i, text)
			cut := random.Intn(len(text) + 1)
			say(t, other, i, text[:cut], text[cut:])
			for k := range c.Servers {
				s, _ := one.Sent(k)
				wantSent(t, other, k, s)
			}
			for k := range dialects {
				s, _ := one.Told(k)
				wantTold(t, other, k, s)
			}
		}
	}
}

// Great pieces, and great many small ones, are heard to their end.
func TestSayMuch(t *testing.T) {
	const n = 1 << 20
	for _, d := range dialects {
		x := joined(t, api.Config{Servers: 2, Points: 2, Window: 1}, d, d, api.Lines)
		one := ask(t, d, get("a"), 0)
		say(t, x, 0, strings.Repeat(one, n/8))
		for range n / 8 {
			say(t, x, 1, one)
		}
		say(t, x, 2, strings.Repeat("x", n)+"\n"+strings.Repeat("\n", n))
		o := owner(t, api.Config{Servers: 2, Points: 2}, "a")
		wantSent(t, x, o, request(api.Get, "a", "", 0)+request(api.Get, "a", "", 1))
		wantSent(t, x, 1-o, "")
		if s, e := x.Told(2); s != "fail long\n"+strings.Repeat("fail form\n", n) || e != api.OK {
			t.Errorf("Told of %d lines: %d bytes, %d", n, len(s), e)
		}
	}
}

// No call panics, whatever numbers and texts it is given.
func TestJunctionNeverPanics(t *testing.T) {
	random := rand.New(rand.NewSource(10))
	numbers := []int{math.MinInt, -1, 0, 0, 1, 1, 2, 2, 3, 3, 4, 5, 6, 7, 16, 17, math.MaxInt}
	const letters = "\x00\x01\x02\x03 \n*$1234abgetsdl\xff"
	number := func() int { return numbers[random.Intn(len(numbers))] }
	for range 3000 {
		x, e := junction.New(api.Config{Servers: number(), Points: number(), Window: number()})
		if e != api.OK {
			if e != api.ErrArg || x != nil {
				t.Fatalf("New = %v, %d", x, e)
			}
			continue
		}
		for range 60 {
			if n, e := x.Open(number()); e != api.OK && (e != api.ErrArg || n != 0) {
				t.Fatalf("Open = %d, %d", n, e)
			}
			noise := make([]byte, random.Intn(20))
			for i := range noise {
				noise[i] = letters[random.Intn(len(letters))]
			}
			if e := x.Say(number(), string(noise)); e != api.OK && e != api.ErrArg {
				t.Fatalf("Say = %d", e)
			}
			if s, e := x.Told(number()); e != api.OK && (e != api.ErrArg || s != "") {
				t.Fatalf("Told = %q, %d", s, e)
			}
			if s, e := x.Sent(number()); e != api.OK && (e != api.ErrArg || s != "") {
				t.Fatalf("Sent = %q, %d", s, e)
			}
		}
	}
}
