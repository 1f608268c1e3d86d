package promises

import (
	"iter"
	"slices"
	"strings"
	"testing"

	"junction/api"
)

// restAfter tells how many bytes wait if all of the items have come, and so
// many are told.
func restAfter(items []item, told int) int {
	rest := 0
	for n, i := range items {
		if n < told && i.c.Fatal {
			return 0
		}
		if n >= told {
			rest += len(i.text)
		}
	}
	return rest
}

// mixed has a few things of each sort.
func mixed(dialect int) []item {
	switch dialect {
	case api.Lines:
		return []item{
			whole("get a\n", get("a")), {strings.Repeat("x", 99) + "\n", 61, wrong(api.Long)}, whole("set a 2\n\n\n\n", set("a", "\n\n")),
			{"set a 1\nxyz\n", 10, wrong(api.Data)}, whole("get\n", wrong(api.Form)), whole("del a\n", del("a")), whole("set a 77\n", wrong(api.Big)),
		}
	case api.Frames:
		return append(frameItems()[:6], fatalFrames()[0], frameItems()[0])
	}
	return append(listItems()[:3], listItems()[20], listItems()[7], fatalLists()[20], listItems()[0])
}

// take asks a sequence for n commands, and leaves it.
func take(seq iter.Seq[api.Command], n int) []api.Command {
	var out []api.Command
	if n == 0 {
		return nil
	}
	for c := range seq {
		if out = append(out, c); len(out) == n {
			break
		}
	}
	return out
}

// wanted has the commands of the items, as far as they are read.
func wanted(items []item) []api.Command {
	told, _ := expected(items, len(textOf(items)))
	return told
}

// Left behind each command, what is not asked for stays, for Feed and for Next.
func TestNextLeftEarly(t *testing.T) {
	for _, d := range dialects {
		items := mixed(d)
		want := wanted(items)
		for n := 0; n <= len(want); n++ {
			for _, byFeed := range []bool{true, false} {
				r := reader(t, d)
				told := take(r.Next(textOf(items)), n)
				if !same(told, want[:n]) || r.Rest() != restAfter(items, n) {
					t.Fatalf("dialect %d, %d asked for: %+v, rest %d, want %+v, rest %d", d, n, told, r.Rest(), want[:n], restAfter(items, n))
				}
				if byFeed {
					told = append(told, r.Feed("")...)
				} else {
					told = append(told, slices.Collect(r.Next(""))...)
				}
				if !same(told, want) || r.Rest() != 0 {
					t.Fatalf("dialect %d, left behind %d: %+v, rest %d, want %+v", d, n, told, r.Rest(), want)
				}
			}
		}
	}
}

// One is asked for at a time, with the bytes coming in pieces all the while.
func TestNextOneByOneInPieces(t *testing.T) {
	for _, d := range dialects {
		items := mixed(d)
		text := textOf(items)
		for size := 1; size <= 20; size++ {
			r := reader(t, d)
			var told []api.Command
			for at := 0; at < len(text); at += size {
				told = append(told, take(r.Next(text[at:min(len(text), at+size)]), 1)...)
			}
			for range items {
				told = append(told, take(r.Next(""), 1)...)
			}
			if !same(told, wanted(items)) || r.Rest() != 0 {
				t.Fatalf("dialect %d, by %d: %+v, rest %d, want %+v", d, size, told, r.Rest(), wanted(items))
			}
		}
	}
}

// The piece comes when Next is called, whether it is asked or not.
func TestNextTakesThePieceAtOnce(t *testing.T) {
	r := reader(t, api.Lines)
	seq := r.Next("get a\nge")
	if r.Rest() != 8 {
		t.Errorf("rest %d, want 8", r.Rest())
	}
	r.Next("t b\nget c")
	if r.Rest() != 17 {
		t.Errorf("rest %d, want 17", r.Rest())
	}
	if l := take(seq, 2); !same(l, []api.Command{get("a"), get("b")}) || r.Rest() != 5 {
		t.Errorf("%+v, rest %d, want rest 5", l, r.Rest())
	}
	if l := r.Feed("\n"); !same(l, []api.Command{get("c")}) || r.Rest() != 0 {
		t.Errorf("%+v, rest %d", l, r.Rest())
	}
}

// A sequence that is asked again goes on, and brings its piece only once.
func TestNextAskedAgain(t *testing.T) {
	r := reader(t, api.Lines)
	seq := r.Next("get a\nget b\n")
	l := append(take(seq, 1), take(seq, 1)...)
	l = append(l, take(seq, 1)...)
	if !same(l, []api.Command{get("a"), get("b")}) || r.Rest() != 0 {
		t.Errorf("%+v, rest %d", l, r.Rest())
	}
}

// In the midst of Next the reader may be asked by others, and what they take
// is gone.
func TestFeedInTheMidstOfNext(t *testing.T) {
	r := reader(t, api.Lines)
	var outer, inner []api.Command
	rests := []int{}
	for c := range r.Next("get a\nget b\nget c\nge") {
		outer = append(outer, c)
		rests = append(rests, r.Rest())
		if len(outer) == 2 {
			inner = r.Feed("t d\nget e\nd")
		}
	}
	if !same(outer, []api.Command{get("a"), get("b")}) || !same(inner, []api.Command{get("c"), get("d"), get("e")}) {
		t.Errorf("Next gives %+v, Feed %+v", outer, inner)
	}
	if !slices.Equal(rests, []int{14, 8}) || r.Rest() != 1 {
		t.Errorf("rests %v, %d", rests, r.Rest())
	}
}

func TestNextPulled(t *testing.T) {
	r := reader(t, api.Lists)
	next, stop := iter.Pull(r.Next(list("get", "a") + list("get", "b") + list("del", "c")))
	a, _ := next()
	rest := r.Rest()
	b, _ := next()
	stop()
	if !same([]api.Command{a, b}, []api.Command{get("a"), get("b")}) || rest != 30 || r.Rest() != 15 {
		t.Errorf("%+v, rest %d, then %+v, rest %d", a, rest, b, r.Rest())
	}
	if l := r.Feed(""); !same(l, []api.Command{del("c")}) {
		t.Errorf("behind it %+v", l)
	}
}

// What is passed over does not count, as soon as the wrong line is told; ahead
// of that all counts.
func TestRestOfWrongLines(t *testing.T) {
	for _, i := range []item{{strings.Repeat("x", 80), 61, wrong(api.Long)}, {"set a 1\nxyyy", 10, wrong(api.Data)}} {
		r := reader(t, api.Lines)
		r.Next(i.text)
		if r.Rest() != len(i.text) {
			t.Errorf("%q, not asked for: rest %d", i.text, r.Rest())
		}
		if l := take(r.Next(""), 1); !same(l, []api.Command{i.c}) || r.Rest() != 0 {
			t.Errorf("%q: %+v, rest %d", i.text, l, r.Rest())
		}
		r.Next(strings.Repeat("z", 200))
		if r.Rest() != 0 {
			t.Errorf("%q, passed over: rest %d", i.text, r.Rest())
		}
		r.Next("zz\nget a\nge")
		if r.Rest() != 8 {
			t.Errorf("%q, behind its line end: rest %d, want 8", i.text, r.Rest())
		}
		if l := r.Feed(""); !same(l, []api.Command{get("a")}) || r.Rest() != 2 {
			t.Errorf("%q, behind its line end: %+v, rest %d", i.text, l, r.Rest())
		}
	}
}

// Something fatal that was not asked for is not told: all of it counts still.
func TestRestAheadOfFatal(t *testing.T) {
	r := reader(t, api.Lists)
	take(r.Next(list("get", "a")+"*0xyz"), 1)
	r.Next("more")
	if r.Rest() != 9 {
		t.Errorf("rest %d, want 9", r.Rest())
	}
	if l := take(r.Next(""), 1); !same(l, []api.Command{fatal(api.Form)}) || r.Rest() != 0 {
		t.Errorf("%+v, rest %d", l, r.Rest())
	}
}
