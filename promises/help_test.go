// Package promises tests what the document promises, by the calls alone.
package promises

import (
	"math/rand"
	"reflect"
	"strings"
	"testing"

	"junction/api"
	"junction/junction"
)

// dialects has all that there are.
var dialects = []int{api.Lines, api.Frames, api.Lists}

func get(keys ...string) api.Command { return api.Command{Kind: api.Get, Keys: keys} }

func set(key, value string) api.Command {
	return api.Command{Kind: api.Set, Keys: []string{key}, Value: value}
}

func del(key string) api.Command { return api.Command{Kind: api.Delete, Keys: []string{key}} }

func wrong(word string) api.Command { return api.Command{Kind: api.Wrong, Word: word} }

func fatal(word string) api.Command {
	return api.Command{Kind: api.Wrong, Word: word, Fatal: true}
}

func as(id int, c api.Command) api.Command {
	c.ID = id
	return c
}

// bytesUpTo makes a text of n bytes, all different, line ends among them.
func bytesUpTo(n int) string {
	b := make([]byte, n)
	for i := range b {
		b[i] = byte(i*7 + 3)
	}
	return string(b)
}

func reader(t *testing.T, dialect int) *junction.Reader {
	t.Helper()
	r, e := junction.Decoder(dialect)
	if r == nil || e != api.OK {
		t.Fatalf("Decoder(%d) = %v, %d", dialect, r, e)
	}
	return r
}

// same compares commands; no keys are no keys, nil or not.
func same(a, b []api.Command) bool {
	if len(a) != len(b) {
		return false
	}
	for i := range a {
		x, y := a[i], b[i]
		if len(x.Keys) == 0 && len(y.Keys) == 0 {
			x.Keys, y.Keys = nil, nil
		}
		if !reflect.DeepEqual(x, y) {
			return false
		}
	}
	return true
}

// item is one thing that a client says, and what it comes to.
type item struct {
	text  string
	known int // so many of its bytes must have come; the others are passed over
	c     api.Command
}

func whole(text string, c api.Command) item { return item{text, len(text), c} }

func textOf(items []item) string {
	var out strings.Builder
	for _, i := range items {
		out.WriteString(i.text)
	}
	return out.String()
}

// expected tells what the first n bytes of the items come to, and the rest.
func expected(items []item, n int) ([]api.Command, int) {
	var told []api.Command
	for _, i := range items {
		if n < i.known {
			return told, n
		}
		told = append(told, i.c)
		if i.c.Fatal || n <= len(i.text) {
			return told, 0
		}
		n -= len(i.text)
	}
	return told, n
}

// feedCut feeds the items cut at these places, and looks behind each piece.
func feedCut(t *testing.T, dialect int, items []item, cuts []int) {
	t.Helper()
	text := textOf(items)
	r := reader(t, dialect)
	var told []api.Command
	from := 0
	for _, to := range append(append([]int(nil), cuts...), len(text)) {
		told = append(told, r.Feed(text[from:to])...)
		from = to
		if want, rest := expected(items, to); !same(told, want) || r.Rest() != rest {
			t.Fatalf("dialect %d, the first %d bytes of %q, cut at %v: %+v, rest %d, want %+v, rest %d", dialect, to, text, cuts, told, r.Rest(), want, rest)
		}
	}
}

// everyByte cuts n bytes into single ones.
func everyByte(n int) []int {
	var cuts []int
	for i := 1; i < n; i++ {
		cuts = append(cuts, i)
	}
	return cuts
}

func randomCuts(random *rand.Rand, n int) []int {
	var cuts []int
	for at := random.Intn(12); at < n; at += random.Intn(12) {
		cuts = append(cuts, at)
	}
	return cuts
}

func itemsOf(dialect int) []item {
	switch dialect {
	case api.Lines:
		return lineItems()
	case api.Frames:
		return append(frameItems(), fatalFrames()...)
	}
	return append(listItems(), fatalLists()...)
}
