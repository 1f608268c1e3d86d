package speech

import (
	"bytes"
	"strconv"
	"strings"

	"junction/api"
	"junction/check"
)

// lines is the dialect LINES.
type lines struct{}

func (lines) CanSay(api.Command, int) bool { return true }

func (lines) Read(b []byte) Step {
	end := bytes.IndexByte(b[:min(len(b), api.MaxLine+1)], '\n')
	if end >= 0 {
		return readLine(b, end)
	}
	if len(b) > api.MaxLine {
		return passing(wrong(api.Long, api.MaxLine+1))
	}
	return Step{}
}

// readLine reads the command whose line stops ahead of b[end].
func readLine(b []byte, end int) Step {
	words := strings.Split(string(b[:end]), " ")
	if size, ok := setSize(words); ok {
		return readSet(b, end+1, words[1], size)
	}
	c := api.Command{Kind: kindOf(words[0]), Keys: append([]string(nil), words[1:]...)}
	if c.Kind == api.Set || !check.Command(c) {
		return wrong(api.Form, end+1)
	}
	return Step{Command: c, Used: end + 1}
}

// setSize tells the count of a line that is a right set, but for how great
// the count is.
func setSize(words []string) (int, bool) {
	if len(words) != 3 || kindOf(words[0]) != api.Set || !check.Key(words[1]) {
		return 0, false
	}
	return count(words[2])
}

// readSet reads what stands behind a set's line, from b[from] on.
func readSet(b []byte, from int, key string, size int) Step {
	if size > api.MaxValue {
		return wrong(api.Big, from)
	}
	end := from + size
	if len(b) <= end {
		return Step{}
	}
	if b[end] != '\n' {
		return passing(wrong(api.Data, end))
	}
	c := api.Command{Kind: api.Set, Keys: []string{key}, Value: string(b[from:end])}
	return Step{Command: c, Used: end + 1}
}

// count reads `0`, or one to three digits of which the first is not `0`.
func count(s string) (int, bool) {
	if len(s) < 1 || len(s) > 3 || len(s) > 1 && s[0] == '0' {
		return 0, false
	}
	n := 0
	for i := range len(s) {
		if s[i] < '0' || s[i] > '9' {
			return 0, false
		}
		n = n*10 + int(s[i]-'0')
	}
	return n, true
}

func (lines) Ask(c api.Command, _ int) string {
	line := nameOf(c.Kind) + " " + strings.Join(c.Keys, " ")
	if c.Kind == api.Set {
		return line + " " + sized(c.Value)
	}
	return line + "\n"
}

func (lines) Tell(c api.Command, a api.Answer, _ int) string {
	switch a.Kind {
	case api.Found:
		return tellFound(c.Keys, a)
	case api.Done:
		return "done\n"
	case api.Gone:
		return "gone\n"
	case api.None:
		return "none\n"
	}
	return "fail " + a.Word + "\n"
}

func tellFound(keys []string, a api.Answer) string {
	var out strings.Builder
	for i, key := range keys {
		if a.Found[i] {
			out.WriteString("value " + key + " " + sized(a.Values[i]))
		}
	}
	return out.String() + "end\n"
}

// sized writes a value behind its count, each with a line end.
func sized(value string) string { return strconv.Itoa(len(value)) + "\n" + value + "\n" }

// kindOf tells the kind of command that a word names, or 0.
func kindOf(word string) int {
	switch word {
	case "get":
		return api.Get
	case "set":
		return api.Set
	case "del":
		return api.Delete
	}
	return 0
}

func nameOf(kind int) string {
	switch kind {
	case api.Get:
		return "get"
	case api.Set:
		return "set"
	}
	return "del"
}
