package promises

import (
	"math"
	"strconv"
	"strings"
	"testing"

	"junction/api"
	"junction/junction"
)

func asks(t *testing.T, dialect int, c api.Command, id int, want string) {
	t.Helper()
	if s, e := junction.Ask(dialect, c, id); s != want || e != api.OK {
		t.Errorf("Ask(%d, %+v, %d) = %q, %d, want %q", dialect, c, id, s, e, want)
	}
}

func askRefused(t *testing.T, dialect int, c api.Command, id int) {
	t.Helper()
	if s, e := junction.Ask(dialect, c, id); s != "" || e != api.ErrArg {
		t.Errorf("Ask(%d, %+v, %d) = %q, %d, want ErrArg", dialect, c, id, s, e)
	}
}

func tells(t *testing.T, dialect int, c api.Command, a api.Answer, id int, want string) {
	t.Helper()
	if s, e := junction.Tell(dialect, c, a, id); s != want || e != api.OK {
		t.Errorf("Tell(%d, %+v, %+v, %d) = %q, %d, want %q", dialect, c, a, id, s, e, want)
	}
}

func tellRefused(t *testing.T, dialect int, c api.Command, a api.Answer, id int) {
	t.Helper()
	if s, e := junction.Tell(dialect, c, a, id); s != "" || e != api.ErrArg {
		t.Errorf("Tell(%d, %+v, %+v, %d) = %q, %d, want ErrArg", dialect, c, a, id, s, e)
	}
}

// What a reader reads as a command is, for each, just what Ask writes.
func TestAskWritesTheItems(t *testing.T) {
	for _, d := range dialects {
		for _, i := range itemsOf(d) {
			if i.c.Kind != api.Wrong {
				asks(t, d, i.c, i.c.ID, i.text)
			} else {
				askRefused(t, d, i.c, 0)
			}
		}
	}
}

func TestAskEveryKeyByte(t *testing.T) {
	for _, d := range dialects {
		for b := range 256 {
			for _, around := range []string{"|", "a|", "|a", "abc|defg"} {
				key := strings.Replace(around, "|", string([]byte{byte(b)}), 1)
				may := b >= 'a' && b <= 'z' || b >= '0' && b <= '9'
				for _, c := range []api.Command{get(key), set(key, "v"), del(key)} {
					if _, e := junction.Ask(d, c, 0); (e == api.OK) != may {
						t.Errorf("Ask(%d, %+v) = %d", d, c, e)
					}
				}
			}
		}
	}
}

func TestAskBounds(t *testing.T) {
	for _, d := range dialects {
		for n := range 20 {
			key := strings.Repeat("k", n)
			for _, c := range []api.Command{get(key), set(key, ""), del(key)} {
				if _, e := junction.Ask(d, c, 0); (e == api.OK) != (n >= 1 && n <= 8) {
					t.Errorf("Ask(%d, %+v) = %d", d, c, e)
				}
			}
		}
		for n := range 100 {
			if _, e := junction.Ask(d, set("k", strings.Repeat("\n", n)), 0); (e == api.OK) != (n <= 40) {
				t.Errorf("Ask(%d) of a value of %d bytes = %d", d, n, e)
			}
			keys := strings.Split(strings.Repeat("k", n), "")
			if _, e := junction.Ask(d, get(keys...), 0); (e == api.OK) != (n == 1 || n >= 1 && n <= 4 && d != api.Frames) {
				t.Errorf("Ask(%d) of a Get of %d keys = %d", d, n, e)
			}
			for _, kind := range []int{api.Set, api.Delete} {
				if _, e := junction.Ask(d, api.Command{Kind: kind, Keys: keys}, 0); (e == api.OK) != (n == 1) {
					t.Errorf("Ask(%d) of kind %d of %d keys = %d", d, kind, n, e)
				}
			}
		}
	}
}

func TestAskRefuses(t *testing.T) {
	for _, d := range []int{0, 4, -1, 257, math.MaxInt, math.MinInt} {
		askRefused(t, d, get("a"), 0)
		tellRefused(t, d, set("a", ""), api.Answer{Kind: api.Done}, 0)
	}
	for _, d := range dialects {
		for _, kind := range []int{0, api.Wrong, 5, -1, 257, math.MaxInt, math.MinInt} {
			askRefused(t, d, api.Command{Kind: kind, Keys: []string{"a"}}, 0)
		}
		askRefused(t, d, api.Command{Kind: api.Get, Keys: []string{"a"}, Value: "v"}, 0)
		askRefused(t, d, api.Command{Kind: api.Delete, Keys: []string{"a"}, Value: "v"}, 0)
		askRefused(t, d, get("a", ""), 0)
		askRefused(t, d, get("", "a"), 0)
		askRefused(t, d, get("a", "b", "c", "D"), 0)
	}
	askRefused(t, api.Frames, get("a", "b"), 0)
}

func TestIDs(t *testing.T) {
	done, refused := api.Answer{Kind: api.Done}, api.Answer{Kind: api.Failed, Word: "x"}
	for _, id := range []int{0, 1, 10, 255, 256, 257, 32767, 32768, 65534, 65535} {
		low, high := string([]byte{byte(id % 256)}), string([]byte{byte(id / 256)})
		asks(t, api.Frames, set("a", ""), id, "\x01\x02\x01\x00\x00"+low+high+"a")
		tells(t, api.Frames, set("a", ""), done, id, "\x02\x00\x00\x00\x00"+low+high)
		tells(t, api.Frames, wrong(api.Form), refused, id, "\x02\x02\x00\x00\x00\x00\x00")
	}
	for _, id := range []int{-1, -65536, 65536, 65537, 1 << 20, math.MaxInt, math.MinInt} {
		askRefused(t, api.Frames, set("a", ""), id)
		tellRefused(t, api.Frames, set("a", ""), done, id)
		tellRefused(t, api.Frames, wrong(api.Form), refused, id)
		asks(t, api.Lines, set("a", ""), id, "set a 0\n\n")
		asks(t, api.Lists, set("a", ""), id, "*3\n$3\nset\n$1\na\n$0\n\n")
		tells(t, api.Lines, set("a", ""), done, id, "done\n")
		tells(t, api.Lists, set("a", ""), done, id, "+done\n")
		tells(t, api.Lines, wrong(api.Form), refused, id, "fail x\n")
	}
}

// Ask looks at Kind, Keys and Value alone, Tell at the Kind alone of what is
// wrong, and of an answer at what its kind has.
func TestWhatIsNotLookedAt(t *testing.T) {
	odd := func(c api.Command) api.Command {
		c.Word, c.Fatal, c.ID = "NO WORD", true, -7
		return c
	}
	asks(t, api.Lines, odd(get("a", "b")), 3, "get a b\n")
	asks(t, api.Frames, odd(del("a")), 3, head(1, 3, 1, 0, 3)+"a")
	asks(t, api.Lists, odd(del("a")), 3, list("del", "a"))
	bad := api.Command{Kind: api.Wrong, Keys: []string{"A", "", "c"}, Value: strings.Repeat("v", 99), Word: "?", ID: 1 << 40}
	failed := api.Answer{Kind: api.Failed, Word: "form", Found: []bool{true}, Values: []string{strings.Repeat("v", 99)}}
	tells(t, api.Lines, bad, failed, 1, "fail form\n")
	tells(t, api.Frames, bad, failed, 1, head(2, 2, 0, 0, 0))
	tells(t, api.Lists, bad, failed, 1, "-form\n")
	tells(t, api.Frames, odd(set("a", "v")), api.Answer{Kind: api.Done, Word: "?", Values: []string{"v"}}, 1, head(2, 0, 0, 0, 1))
	tells(t, api.Lines, odd(del("a")), api.Answer{Kind: api.Gone, Word: "?", Found: []bool{false}}, 1, "gone\n")
	tells(t, api.Lists, odd(del("a")), api.Answer{Kind: api.None, Word: "?", Found: []bool{true}}, 1, ":0\n")
	tells(t, api.Lists, odd(get("a")), api.Answer{Kind: api.Found, Word: "?", Found: []bool{true}, Values: []string{"v"}}, 1, "$1\nv\n")
}

func found(texts ...string) api.Answer {
	a := api.Answer{Kind: api.Found}
	for _, s := range texts {
		value, ok := strings.CutPrefix(s, "=")
		a.Found, a.Values = append(a.Found, ok), append(a.Values, value)
	}
	return a
}

func TestTellFound(t *testing.T) {
	all := bytesUpTo(40)
	four := get("a", "b2", "c", "abcdefgh")
	tells(t, api.Lines, four, found("=", "", "=x\ny", "="+all), 0, "value a 0\n\nvalue c 3\nx\ny\nvalue abcdefgh 40\n"+all+"\nend\n")
	tells(t, api.Lists, four, found("=", "", "=x\ny", "="+all), 0, "*4\n$0\n\n$-1\n$3\nx\ny\n$40\n"+all+"\n")
	tells(t, api.Lines, get("a", "a"), found("=1", "=1"), 0, "value a 1\n1\nvalue a 1\n1\nend\n")
	tells(t, api.Lines, get("a"), found(""), 0, "end\n")
	tells(t, api.Lists, get("a"), found(""), 0, "$-1\n")
	tells(t, api.Lists, get("a", "b"), found("", ""), 0, "*2\n$-1\n$-1\n")
	tells(t, api.Frames, get("a"), found(""), 258, head(2, 1, 0, 0, 258))
	for n := range 41 {
		value := bytesUpTo(n)
		tells(t, api.Lines, get("a"), found("="+value), 0, "value a "+strconv.Itoa(n)+"\n"+value+"\nend\n")
		tells(t, api.Frames, get("a"), found("="+value), 7, head(2, 0, 0, n, 7)+value)
		tells(t, api.Lists, get("a"), found("="+value), 0, "$"+strconv.Itoa(n)+"\n"+value+"\n")
	}
}

func TestTellOthers(t *testing.T) {
	for _, c := range []struct {
		c                    api.Command
		kind                 int
		lines, frames, lists string
	}{
		{set("a", "v"), api.Done, "done\n", head(2, 0, 0, 0, 9), "+done\n"},
		{del("a"), api.Gone, "gone\n", head(2, 0, 0, 0, 9), ":1\n"},
		{del("a"), api.None, "none\n", head(2, 1, 0, 0, 9), ":0\n"},
		{get("a"), api.Failed, "fail abcdefgh\n", head(2, 2, 0, 0, 9), "-abcdefgh\n"},
		{set("a", "v"), api.Failed, "fail abcdefgh\n", head(2, 2, 0, 0, 9), "-abcdefgh\n"},
		{del("a"), api.Failed, "fail abcdefgh\n", head(2, 2, 0, 0, 9), "-abcdefgh\n"},
		{wrong(api.Long), api.Failed, "fail abcdefgh\n", head(2, 2, 0, 0, 0), "-abcdefgh\n"},
	} {
		a := api.Answer{Kind: c.kind, Word: "abcdefgh"}
		tells(t, api.Lines, c.c, a, 9, c.lines)
		tells(t, api.Frames, c.c, a, 9, c.frames)
		tells(t, api.Lists, c.c, a, 9, c.lists)
	}
	tells(t, api.Lines, get("a", "b"), api.Answer{Kind: api.Failed, Word: "z"}, 0, "fail z\n")
	tells(t, api.Lists, get("a", "b"), api.Answer{Kind: api.Failed, Word: "down"}, 0, "-down\n")
}

// Each kind of answer goes with its own commands.
func TestTellEveryPairOfKinds(t *testing.T) {
	answers := []int{-1, 0, api.Found, api.Done, api.Gone, api.None, api.Failed, 6, math.MaxInt, math.MinInt}
	may := map[[2]int]int{
		{api.Get, api.Found}: 1, {api.Set, api.Done}: 1, {api.Delete, api.Gone}: 1, {api.Delete, api.None}: 1,
		{api.Get, api.Failed}: 1, {api.Set, api.Failed}: 1, {api.Delete, api.Failed}: 1, {api.Wrong, api.Failed}: 1,
	}
	for _, d := range dialects {
		for _, kind := range []int{-1, 0, api.Get, api.Set, api.Delete, api.Wrong, 5, math.MaxInt} {
			for _, answer := range answers {
				c := api.Command{Kind: kind, Keys: []string{"a"}}
				a := api.Answer{Kind: answer, Found: []bool{true}, Values: []string{"v"}, Word: "down"}
				s, e := junction.Tell(d, c, a, 0)
				if ok := may[[2]int{kind, answer}] == 1; ok != (e == api.OK) || ok != (s != "") || !ok && e != api.ErrArg {
					t.Errorf("Tell(%d, %+v, %+v) = %q, %d", d, c, a, s, e)
				}
			}
		}
	}
}

func TestTellRefuses(t *testing.T) {
	long := strings.Repeat("v", 41)
	failed := api.Answer{Kind: api.Failed, Word: "down"}
	for _, d := range dialects {
		for _, a := range []api.Answer{
			found(), found("=x", "=y"), found("=" + long), {Kind: api.Found, Found: []bool{false}, Values: []string{"x"}},
			{Kind: api.Found, Found: []bool{true}}, {Kind: api.Found, Values: []string{"x"}}, {Kind: api.Found, Found: []bool{true}, Values: []string{"x", "y"}},
			{Kind: api.Found, Found: []bool{true, true}, Values: []string{"x"}}, {},
		} {
			tellRefused(t, d, get("a"), a, 0)
		}
		for _, c := range []api.Command{get(), get("A"), get("a", "b", "c", "d", "e"), get("abcdefghi"), set("a", long), set("", ""), {Kind: api.Set, Keys: []string{"a", "b"}}, {Kind: api.Set}, del(""), {Kind: api.Delete}, {Kind: api.Delete, Keys: []string{"a"}, Value: "v"}, {Kind: api.Get, Keys: []string{"a"}, Value: "v"}} {
			tellRefused(t, d, c, failed, 0)
		}
	}
	for _, d := range []int{api.Lines, api.Lists} {
		tellRefused(t, d, get("a", "b"), found("=x"), 0)
		tellRefused(t, d, get("a", "b"), found("=x", "="+long), 0)
		tellRefused(t, d, get("a", "b"), api.Answer{Kind: api.Found, Found: []bool{true, false}, Values: []string{"", "x"}}, 0)
	}
	tellRefused(t, api.Frames, get("a", "b"), found("=x", "=y"), 0)
	tellRefused(t, api.Frames, get("a", "b"), failed, 0)
}

func TestTellWords(t *testing.T) {
	for _, d := range dialects {
		for n := range 20 {
			a := api.Answer{Kind: api.Failed, Word: strings.Repeat("w", n)}
			for _, c := range []api.Command{get("a"), wrong(api.Form)} {
				if _, e := junction.Tell(d, c, a, 0); (e == api.OK) != (n >= 1 && n <= 8) {
					t.Errorf("Tell(%d, %+v, %+v) = %d", d, c, a, e)
				}
			}
		}
		for b := range 256 {
			for _, around := range []string{"|", "a|", "|a", "abc|defg"} {
				a := api.Answer{Kind: api.Failed, Word: strings.Replace(around, "|", string([]byte{byte(b)}), 1)}
				if _, e := junction.Tell(d, del("a"), a, 0); (e == api.OK) != (b >= 'a' && b <= 'z') {
					t.Errorf("Tell(%d, %+v) = %d", d, a, e)
				}
			}
		}
	}
}
