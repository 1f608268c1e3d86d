package promises

import (
	"math/rand"
	"strings"
	"testing"

	"junction/api"
)

// Every way to cut short texts, at all places or none.
func TestEveryCut(t *testing.T) {
	for _, c := range []struct {
		dialect int
		items   []item
	}{
		{api.Lines, []item{whole("get a\n", get("a")), whole("del b\n", del("b"))}},
		{api.Lines, []item{whole("set a 1\n\n\n", set("a", "\n")), whole("x\n", wrong(api.Form))}},
		{api.Lines, []item{{"set a 0\nxy\n", 9, wrong(api.Data)}, whole("\n", wrong(api.Form)), whole("\n", wrong(api.Form))}},
		{api.Lines, []item{whole("set a 41\n", wrong(api.Big)), whole("get\n", wrong(api.Form))}},
		{api.Frames, []item{whole(head(1, 3, 1, 0, 513)+"a", as(513, del("a"))), {head(0, 1, 1, 0, 0)[:6], 99, fatal(api.Form)}}},
		{api.Frames, []item{whole(head(1, 2, 2, 3, 7)+"a1x\ny", as(7, set("a1", "x\ny")))}},
		{api.Frames, []item{{head(1, 2, 1, 2, 7) + "Axyz", 10, fatal(api.Form)}}},
		{api.Frames, []item{{head(1, 1, 1, 1, 7) + "axyz", 7, fatal(api.Form)}}},
		{api.Lists, []item{whole("*1\n$0\n\n", wrong(api.Data)), {"*1\n$41\n", 6, fatal(api.Form)}}},
		{api.Lists, []item{whole("*2\n$3\nget\n$1\na\n", get("a"))}},
	} {
		n := len(textOf(c.items))
		for bits := range 1 << (n - 1) {
			var cuts []int
			for at := 1; at < n; at++ {
				if bits>>(at-1)&1 == 1 {
					cuts = append(cuts, at)
				}
			}
			feedCut(t, c.dialect, c.items, cuts)
		}
	}
}

// Every way to cut longer texts into three pieces.
func TestEveryTwoCuts(t *testing.T) {
	for _, d := range dialects {
		for _, items := range [][]item{mixed(d), itemsOf(d)[5:9]} {
			n := len(textOf(items))
			for first := range n {
				for second := first; second <= n; second++ {
					feedCut(t, d, items, []int{first, second})
				}
			}
		}
	}
}

// Lines about as long as may be, cut everywhere near their ends.
func TestCutsOfLongLines(t *testing.T) {
	for n := 57; n <= 66; n++ {
		items := []item{lineItem(strings.Repeat("x", n)), whole("get a\n", get("a"))}
		for first := 55; first < n+7; first++ {
			for second := first; second <= n+7; second++ {
				feedCut(t, api.Lines, items, []int{first, second})
			}
		}
	}
}

// Long talks, cut by chance; empty pieces are among them.
func TestRandomCuts(t *testing.T) {
	random := rand.New(rand.NewSource(1))
	for _, d := range dialects {
		items := itemsOf(d)
		for range 400 {
			var talk []item
			for range 20 {
				i := items[random.Intn(len(items))]
				if !i.c.Fatal || random.Intn(20) == 0 {
					talk = append(talk, i)
				}
			}
			feedCut(t, d, talk, randomCuts(random, len(textOf(talk))))
		}
	}
}

// Bytes by chance, of those that make up a dialect: one piece and single bytes
// come to the same.
func TestRandomBytes(t *testing.T) {
	random := rand.New(rand.NewSource(2))
	parts := map[int][]string{
		api.Lines:  {"get", "set", "del", " ", " ", "a", "b1", "0", "1", "2", "40", "41", "\n", "\n", "x", strings.Repeat("y", 30)},
		api.Frames: {head(1, 1, 1, 0, 0), head(1, 2, 1, 2, 1), head(1, 3, 2, 0, 65535), "a", "b", "\x01", "\x00", "\x02"},
		api.Lists:  {"*1\n", "*2\n", "*3\n", "$3\n", "$1\n", "$0\n", "get\n", "set\n", "a\n", "\n", "$2\nxy\n", "*", "$"},
	}
	for _, d := range dialects {
		for range 3000 {
			var text strings.Builder
			for range random.Intn(40) {
				text.WriteString(parts[d][random.Intn(len(parts[d]))])
			}
			compareCuts(t, d, text.String(), randomCuts(random, text.Len()))
		}
	}
}

// compareCuts feeds a text at once, by bytes, and cut at these places.
func compareCuts(t *testing.T, dialect int, text string, cuts []int) {
	t.Helper()
	once := reader(t, dialect)
	want := once.Feed(text)
	for _, c := range [][]int{everyByte(len(text)), cuts} {
		r := reader(t, dialect)
		var told []api.Command
		from := 0
		for _, to := range append(append([]int(nil), c...), len(text)) {
			told = append(told, r.Feed(text[from:to])...)
			from = to
		}
		if !same(told, want) || r.Rest() != once.Rest() {
			t.Fatalf("dialect %d, %q cut at %v: %+v, rest %d, at once %+v, rest %d", dialect, text, c, told, r.Rest(), want, once.Rest())
		}
	}
}
