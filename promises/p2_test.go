package promises

import (
	"math"
	"regexp"
	"strconv"
	"strings"
	"testing"

	"junction/api"
	"junction/junction"
)

func TestDecoderRefusesOtherDialects(t *testing.T) {
	for _, d := range []int{0, 4, 5, -1, 257, math.MaxInt, math.MinInt} {
		if r, e := junction.Decoder(d); r != nil || e != api.ErrArg {
			t.Errorf("Decoder(%d) = %v, %d, want nil, ErrArg", d, r, e)
		}
	}
	for _, d := range dialects {
		r := reader(t, d)
		if l := r.Feed(""); len(l) != 0 || r.Rest() != 0 {
			t.Errorf("dialect %d: a new reader tells %+v, rest %d", d, l, r.Rest())
		}
	}
}

// Each thing is told by the very byte that makes it known, and Rest counts
// what belongs to nothing told.
func TestEachItemByteByByte(t *testing.T) {
	for _, d := range dialects {
		for _, i := range itemsOf(d) {
			feedCut(t, d, []item{i}, everyByte(len(i.text)))
			feedCut(t, d, []item{i}, nil)
		}
	}
}

func TestEachItemBehindEachOther(t *testing.T) {
	for _, d := range dialects {
		for _, i := range itemsOf(d) {
			for _, j := range itemsOf(d) {
				both := []item{i, j}
				feedCut(t, d, both, nil)
				feedCut(t, d, both, everyByte(len(i.text)+len(j.text)))
			}
		}
	}
}

// Of the documented examples.
func TestExamplesOfReading(t *testing.T) {
	r := reader(t, api.Lines)
	want := []api.Command{set("a", "xy"), get("a", "b"), wrong(api.Big), wrong(api.Form), wrong(api.Form), wrong(api.Data)}
	if l := r.Feed("set a 2\nxy\nget a b\nset a 41\nget\nget a  b\nset a 1\nxyz\n"); !same(l, want) || r.Rest() != 0 {
		t.Errorf("lines: %+v, rest %d", l, r.Rest())
	}
	r = reader(t, api.Lists)
	if l := r.Feed("*2\n$3\nget\n$1\na\n*1\n$3\nget\n*"); !same(l, []api.Command{get("a"), wrong(api.Data)}) || r.Rest() != 1 {
		t.Errorf("lists: %+v, rest %d", l, r.Rest())
	}
	if l := r.Feed("0"); !same(l, []api.Command{fatal(api.Form)}) || r.Rest() != 0 {
		t.Errorf("lists, *0: %+v, rest %d", l, r.Rest())
	}
}

var (
	lineGet = regexp.MustCompile(`^get( [a-z0-9]{1,8}){1,4}$`)
	lineDel = regexp.MustCompile(`^del [a-z0-9]{1,8}$`)
	lineSet = regexp.MustCompile(`^set [a-z0-9]{1,8} (0|[1-9][0-9]{0,2})$`)
)

// lineItem tells by patterns what a line without line ends comes to; a set's
// value is made up.
func lineItem(line string) item {
	words := strings.Split(line, " ")
	switch {
	case len(line) > api.MaxLine:
		return item{line + "\n", api.MaxLine + 1, wrong(api.Long)}
	case lineGet.MatchString(line):
		return whole(line+"\n", get(words[1:]...))
	case lineDel.MatchString(line):
		return whole(line+"\n", del(words[1]))
	case lineSet.MatchString(line):
		n, _ := strconv.Atoi(words[2])
		if n > api.MaxValue {
			return whole(line+"\n", wrong(api.Big))
		}
		return whole(line+"\n"+bytesUpTo(n)+"\n", set(words[1], bytesUpTo(n)))
	}
	return whole(line+"\n", wrong(api.Form))
}

// Every byte at every place of right lines: in place of another, beside it,
// and left out.
func TestLinesWithEveryByte(t *testing.T) {
	for _, line := range []string{"get ab", "get a b c d", "get abcdefgh 12345678", "set a 0", "set ab 40", "set abcdefgh 9", "del a", "del 12345678", "get " + strings.Repeat("a", 56)} {
		for at := range len(line) {
			lines := []string{line[:at] + line[at+1:]}
			for b := range 256 {
				if b != '\n' {
					lines = append(lines, line[:at]+string([]byte{byte(b)})+line[at+1:], line[:at]+string([]byte{byte(b)})+line[at:])
				}
			}
			for _, l := range lines {
				feedCut(t, api.Lines, []item{lineItem(l), whole("get z\n", get("z"))}, []int{len(l)})
			}
		}
	}
}

func TestLinesEveryCount(t *testing.T) {
	for n := range 1100 {
		feedCut(t, api.Lines, []item{lineItem("set k " + strconv.Itoa(n)), whole("get z\n", get("z"))}, nil)
	}
}

// frameItem tells by the rules what a frame comes to; text has all its bytes,
// if its head may be.
func frameItem(text string) item {
	kind, key, value := text[1], int(text[2]), int(text[3])+int(text[4])*256
	kindOK := kind == 1 || kind == 2 || kind == 3
	valueOK := value == 0 || kind == 2 && value <= 40
	if text[0] != 1 || !kindOK || key == 0 || key > 8 || !valueOK {
		return item{text, 7, fatal(api.Form)}
	}
	if !regexp.MustCompile(`^[a-z0-9]+$`).MatchString(text[7 : 7+key]) {
		return item{text, 7 + key + value, fatal(api.Form)}
	}
	c := api.Command{Kind: int(kind), Keys: []string{text[7 : 7+key]}, Value: text[7+key : 7+key+value], ID: int(text[5]) + int(text[6])*256}
	return whole(text[:7+key+value], c)
}

func TestFramesWithEveryByte(t *testing.T) {
	for _, text := range []string{head(1, 1, 1, 0, 0) + "a", head(1, 2, 8, 40, 513) + "abcdefgh" + strings.Repeat("v", 40), head(1, 3, 3, 0, 65535) + "a0z", head(1, 2, 1, 0, 5) + "a"} {
		for at := range 15 {
			for b := range 256 {
				changed := []byte(text + strings.Repeat("k", 300))
				changed[at] = byte(b)
				i := frameItem(string(changed))
				feedCut(t, api.Frames, []item{i}, []int{min(6, len(i.text)), i.known - 1})
			}
		}
	}
}

// listGoesOn tells whether a list may begin so, by trying all that may stand
// at each place; whole tells that it is at its end.
func listGoesOn(s string) (may, whole bool) {
	s, n, may := countOff(s, "*", 1, 5)
	for ; n > 0; n-- {
		var size int
		if s, size, may = countOff(s, "$", 0, 40); size < 0 {
			return may, false
		}
		if len(s) <= size {
			return true, false
		}
		if s[size] != '\n' {
			return false, false
		}
		s = s[size+1:]
		if n == 1 {
			return s == "", s == ""
		}
	}
	return may, false
}

// countOff takes a mark, a count and a line end off; the count is -1 if they
// are not whole.
func countOff(s, mark string, least, most int) (rest string, n int, may bool) {
	for n := least; n <= most; n++ {
		head := mark + strconv.Itoa(n) + "\n"
		if after, ok := strings.CutPrefix(s, head); ok {
			return after, n, true
		}
		may = may || strings.HasPrefix(head, s)
	}
	return "", -1, may
}

// Every byte at every place of lists: each is wrong at once, or may be.
func TestListsWithEveryByte(t *testing.T) {
	for _, text := range []string{list("get", "a"), list("set", "ab", "x\ny"), list("del", "12345678"), list("get", "a", "b", "c", "d"), list("set", "a", bytesUpTo(40)), list("", "1234567890")} {
		for at := range len(text) {
			for b := range 256 {
				s := text[:at] + string([]byte{byte(b)})
				may, ends := listGoesOn(s)
				r := reader(t, api.Lists)
				before := r.Feed(text[:at])
				l := r.Feed(s[at:])
				switch {
				case len(before) != 0:
					t.Fatalf("%q tells %+v", text[:at], before)
				case !may && (!same(l, []api.Command{fatal(api.Form)}) || r.Rest() != 0):
					t.Fatalf("%q tells %+v, rest %d, want form", s, l, r.Rest())
				case may && !ends && (len(l) != 0 || r.Rest() != len(s)):
					t.Fatalf("%q tells %+v, rest %d, want nothing yet", s, l, r.Rest())
				case ends && (len(l) != 1 || l[0].Fatal || r.Rest() != 0):
					t.Fatalf("%q tells %+v, rest %d, want one that is not fatal", s, l, r.Rest())
				}
			}
		}
	}
}

func TestListsEveryCount(t *testing.T) {
	for n := range 130 {
		head := "*1\n$" + strconv.Itoa(n) + "\n"
		i := whole(head+bytesUpTo(n)+"\n", wrong(api.Data))
		if n > api.MaxValue {
			i = item{head, len("*1\n$41"), fatal(api.Form)}
		}
		if n >= 100 {
			i.known++ // the first two digits may be
		}
		feedCut(t, api.Lists, []item{i}, everyByte(len(i.text)))
	}
	for n := range 130 {
		head := "*" + strconv.Itoa(n) + "\n"
		i := item{head, 2, fatal(api.Form)}
		if n >= 1 && n <= 5 {
			i = whole(head+strings.Repeat("$1\na\n", n), wrong(api.Data))
		} else if n/100 >= 1 || n/10 >= 1 && n/10 <= 5 {
			i.known = 3
		}
		feedCut(t, api.Lists, []item{i}, everyByte(len(i.text)))
	}
}

// Behind something fatal nothing is read, and nothing counts.
func TestNothingBehindFatal(t *testing.T) {
	for d, text := range map[int]string{api.Frames: head(9, 9, 9, 9, 9), api.Lists: "*0"} {
		r := reader(t, d)
		if l := r.Feed(text + text); !same(l, []api.Command{fatal(api.Form)}) {
			t.Errorf("dialect %d: %+v", d, l)
		}
		for _, piece := range []string{"", "x", "\n", head(1, 1, 1, 0, 0) + "a", list("get", "a"), text} {
			if l := r.Feed(piece); len(l) != 0 || r.Rest() != 0 {
				t.Errorf("dialect %d, %q behind something fatal: %+v, rest %d", d, piece, l, r.Rest())
			}
			for c := range r.Next(piece) {
				t.Errorf("dialect %d, %q behind something fatal: %+v", d, piece, c)
			}
			if r.Rest() != 0 {
				t.Errorf("dialect %d, behind something fatal: rest %d", d, r.Rest())
			}
		}
	}
}
