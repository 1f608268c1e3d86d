package promises

import (
	"math"
	"math/rand"
	"slices"
	"strings"
	"testing"

	"junction/api"
	"junction/junction"
)

// deepCopy keeps what commands say, whatever becomes of their lists.
func deepCopy(l []api.Command) []api.Command {
	out := append([]api.Command(nil), l...)
	for i := range out {
		out[i].Keys = append([]string(nil), out[i].Keys...)
	}
	return out
}

// writeOver writes into lists that came out, and into all their spare room.
func writeOver(l []api.Command) {
	for _, c := range l[:cap(l)] {
		keys := c.Keys[:cap(c.Keys)]
		for i := range keys {
			keys[i] = "written over"
		}
	}
	l = l[:cap(l)]
	for i := range l {
		l[i] = api.Command{Kind: -1, Keys: []string{"written over"}, Word: "written over"}
	}
}

// A reader whose lists are all written over tells the same as another one,
// and what it told earlier stays as it was.
func TestListsWrittenOver(t *testing.T) {
	random := rand.New(rand.NewSource(4))
	for _, d := range dialects {
		var talk []item
		for range 300 {
			if i := itemsOf(d)[random.Intn(len(itemsOf(d)))]; !i.c.Fatal {
				talk = append(talk, i)
			}
		}
		text := textOf(talk)
		quiet, spoilt := reader(t, d), reader(t, d)
		var kept, copies [][]api.Command
		for from := 0; from < len(text); {
			to := min(len(text), from+random.Intn(150))
			l := quiet.Feed(text[from:to])
			kept, copies = append(kept, l), append(copies, deepCopy(l))
			m := spoilt.Feed(text[from:to])
			if !same(l, m) {
				t.Fatalf("dialect %d, at %d: %+v, and with lists written over %+v", d, from, l, m)
			}
			writeOver(m)
			from = to
		}
		for i := range kept {
			if !same(kept[i], copies[i]) {
				t.Fatalf("dialect %d: %+v became %+v", d, copies[i], kept[i])
			}
		}
	}
}

// No two lists of one answer share memory, nor the spare room.
func TestListsOfOneAnswer(t *testing.T) {
	texts := map[int]string{
		api.Lines:  "get a b c\nset k 1\nv\ndel d\nget e\nget f g h i\nset l 2\nxy\n",
		api.Frames: head(1, 1, 1, 0, 0) + "a" + head(1, 2, 1, 1, 0) + "kv" + head(1, 3, 1, 0, 0) + "d",
		api.Lists:  list("get", "a", "b", "c") + list("set", "k", "v") + list("del", "d") + list("get", "e") + list("set", "l", "xy"),
	}
	for _, d := range dialects {
		for spoil := range reader(t, d).Feed(texts[d]) {
			l := reader(t, d).Feed(texts[d])
			want := deepCopy(l)
			keys := l[spoil].Keys[:cap(l[spoil].Keys)]
			for i := range keys {
				keys[i] = "written over"
			}
			l[spoil].Keys, want[spoil].Keys = nil, nil
			if !same(l, want) {
				t.Errorf("dialect %d, the keys of %d written over: %+v, want %+v", d, spoil, l, want)
			}
		}
	}
}

// The same for commands that come one by one.
func TestNextWrittenOver(t *testing.T) {
	for _, d := range dialects {
		items := mixed(d)
		var told []api.Command
		for c := range reader(t, d).Next(textOf(items)) {
			told = append(told, deepCopy([]api.Command{c})...)
			keys := c.Keys[:cap(c.Keys)]
			for i := range keys {
				keys[i] = "written over"
			}
		}
		if !same(told, wanted(items)) {
			t.Errorf("dialect %d: %+v, want %+v", d, told, wanted(items))
		}
	}
}

// What is handed in is not written into, nor its spare room.
func TestWhatIsHandedInStays(t *testing.T) {
	for _, d := range dialects {
		for _, n := range []int{1, 2, 4, 5} {
			keys := []string{"d", "c", "b", "a", "spare", "spare"}
			found := []bool{true, false, true, false, true, true}
			values := []string{"v", "", "w", "", "spare", "spare"}
			for kind := range 6 {
				c := api.Command{Kind: kind, Keys: keys[:n]}
				junction.Ask(d, c, 0)
				for answer := range 7 {
					junction.Tell(d, c, api.Answer{Kind: answer, Found: found[:n], Values: values[:n], Word: "word"}, 0)
				}
			}
			if !slices.Equal(keys, []string{"d", "c", "b", "a", "spare", "spare"}) || !slices.Equal(found, []bool{true, false, true, false, true, true}) || !slices.Equal(values, []string{"v", "", "w", "", "spare", "spare"}) {
				t.Fatalf("dialect %d: handed in and written into: %v, %v, %v", d, keys, found, values)
			}
		}
	}
}

// Readers do not touch one another.
func TestReadersAlone(t *testing.T) {
	for _, d := range dialects {
		items := mixed(d)
		text := textOf(items)
		var readers [3]*junction.Reader
		var told [3][]api.Command
		for i := range readers {
			readers[i] = reader(t, d)
		}
		for at := range len(text) {
			for i, r := range readers {
				// Each is at another place of the text.
				if at >= i*5 {
					told[i] = append(told[i], r.Feed(text[at-i*5:at-i*5+1])...)
				}
			}
		}
		for i, r := range readers {
			told[i] = append(told[i], r.Feed(text[max(0, len(text)-i*5):])...)
			if !same(told[i], wanted(items)) || r.Rest() != 0 {
				t.Errorf("dialect %d, reader %d: %+v, rest %d, want %+v", d, i, told[i], r.Rest(), wanted(items))
			}
		}
	}
}

// Great texts and lists: every call ends.
func TestGreatInputs(t *testing.T) {
	const n = 1 << 20
	great := strings.Repeat("x", n)
	for _, d := range dialects {
		askRefused(t, d, get(great), 0)
		askRefused(t, d, set("a", great), 0)
		askRefused(t, d, get(strings.Split(great, "")...), 0)
		tellRefused(t, d, get("a"), api.Answer{Kind: api.Found, Found: make([]bool, n), Values: make([]string, n)}, 0)
		tellRefused(t, d, get("a"), found("="+great), 0)
		tellRefused(t, d, get("a"), api.Answer{Kind: api.Failed, Word: great}, 0)
	}
	ownerRefused(t, 1, 1, great)
	ownerRefused(t, math.MaxInt, math.MaxInt, "a")
	for _, d := range dialects {
		i := itemsOf(d)[0]
		r := reader(t, d)
		if l := r.Feed(strings.Repeat(i.text, n/8)); len(l) != n/8 || r.Rest() != 0 {
			t.Errorf("dialect %d: %d commands, rest %d", d, len(l), r.Rest())
		}
		for range n / 8 {
			r.Next(i.text)
		}
		told := 0
		for range r.Rest() {
			told += len(take(r.Next(""), 1))
		}
		if told != n/8 || r.Rest() != 0 {
			t.Errorf("dialect %d, one by one: %d commands, rest %d", d, told, r.Rest())
		}
	}
	r := reader(t, api.Lines)
	if l := r.Feed(great + great + "\nget a\n"); !same(l, []api.Command{wrong(api.Long), get("a")}) || r.Rest() != 0 {
		t.Errorf("a great line: %+v, rest %d", l, r.Rest())
	}
}

// No call panics, whatever numbers and texts it is given, and with an error
// every other result is empty.
func TestNoCallPanics(t *testing.T) {
	random := rand.New(rand.NewSource(5))
	numbers := []int{math.MinInt, -65536, -1, 0, 1, 2, 3, 4, 5, 16, 17, 255, 256, 65535, 65536, math.MaxInt}
	texts := []string{"", "a", "A", "get", "12345678", "123456789", "\n", "\x00", "\xff\xfe", "é", strings.Repeat("v", 40), strings.Repeat("v", 41)}
	number := func() int { return numbers[random.Intn(len(numbers))] }
	text := func() string { return texts[random.Intn(len(texts))] }
	for range 50000 {
		c := api.Command{Kind: number(), Value: text(), Word: text(), Fatal: random.Intn(2) == 0, ID: number()}
		a := api.Answer{Kind: number(), Word: text()}
		for range random.Intn(6) {
			c.Keys = append(c.Keys, text())
		}
		for range random.Intn(6) {
			a.Found = append(a.Found, random.Intn(2) == 0)
		}
		for range random.Intn(6) {
			a.Values = append(a.Values, text())
		}
		if s, e := junction.Ask(number(), c, number()); e != api.OK && (e != api.ErrArg || s != "") {
			t.Fatalf("Ask of %+v = %q, %d", c, s, e)
		}
		if s, e := junction.Tell(number(), c, a, number()); e != api.OK && (e != api.ErrArg || s != "") {
			t.Fatalf("Tell of %+v, %+v = %q, %d", c, a, s, e)
		}
		if n, e := junction.Owner(number(), number(), text()); e != api.OK && (e != api.ErrArg || n != 0) {
			t.Fatalf("Owner = %d, %d", n, e)
		}
		if r, e := junction.Decoder(number()); e == api.OK {
			r.Feed(text() + text())
			take(r.Next(text()), random.Intn(3))
			r.Feed(text())
		} else if e != api.ErrArg || r != nil {
			t.Fatalf("Decoder = %v, %d", r, e)
		}
	}
}
