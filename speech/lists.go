package speech

import (
	"strconv"
	"strings"

	"junction/api"
	"junction/check"
)

// lists is the dialect LISTS.
type lists struct{}

const maxTexts = api.MaxKeys + 1

func (lists) CanSay(api.Command, int) bool { return true }

func (lists) Read(b []byte) Step {
	w := walk{b: b}
	w.expect('*')
	n := w.count(1, maxTexts)
	texts := make([]string, 0, maxTexts)
	for range n {
		w.expect('$')
		texts = append(texts, w.text(w.count(0, api.MaxValue)))
		w.expect('\n')
	}
	switch {
	case w.wrong:
		return fatal(wrong(api.Form, w.at+1))
	case w.short:
		return Step{}
	}
	return readTexts(texts, w.at)
}

// readTexts tells the command that a list of these texts is.
func readTexts(texts []string, used int) Step {
	c := api.Command{Kind: kindOf(texts[0])}
	keys := texts[1:]
	if c.Kind == api.Set && len(keys) == 2 {
		keys, c.Value = keys[:1], keys[1]
	} else if c.Kind == api.Set {
		keys = nil // without its value it is no command, whatever its keys
	}
	c.Keys = append([]string(nil), keys...)
	if !check.Command(c) {
		return wrong(api.Data, used)
	}
	return Step{Command: c, Used: used}
}

// walk goes over the bytes of a list. It stands still at the first byte that
// cannot stand there (wrong), or at the end of what has come (short).
type walk struct {
	b            []byte
	at           int
	wrong, short bool
}

// next tells the byte that is to be looked at, if there is one.
func (w *walk) next() (byte, bool) {
	w.short = w.short || w.at == len(w.b)
	if w.short || w.wrong {
		return 0, false
	}
	return w.b[w.at], true
}

func (w *walk) expect(want byte) {
	b, ok := w.next()
	if !ok {
		return
	}
	if w.wrong = b != want; !w.wrong {
		w.at++
	}
}

// count walks over a count and its line end; least is 0 or 1.
func (w *walk) count(least, most int) int {
	n := 0
	for first := true; ; first = false {
		b, ok := w.next()
		if !ok {
			return 0
		}
		digit := int(b) - '0'
		switch {
		case !first && b == '\n':
			w.at++
			return n
		case digit < 0 || digit > 9 || n*10+digit > most,
			first && digit < least,
			!first && n == 0:
			w.wrong = true
			return 0
		}
		n = n*10 + digit
		w.at++
	}
}

// text walks over so many bytes.
func (w *walk) text(size int) string {
	if w.wrong || w.short {
		return ""
	}
	if len(w.b)-w.at < size {
		w.short = true
		return ""
	}
	w.at += size
	return string(w.b[w.at-size : w.at])
}

func (lists) Ask(c api.Command, _ int) string {
	texts := append([]string{nameOf(c.Kind)}, c.Keys...)
	if c.Kind == api.Set {
		texts = append(texts, c.Value)
	}
	var out strings.Builder
	out.WriteString("*" + strconv.Itoa(len(texts)) + "\n")
	for _, t := range texts {
		out.WriteString("$" + sized(t))
	}
	return out.String()
}

func (lists) Tell(_ api.Command, a api.Answer, _ int) string {
	switch a.Kind {
	case api.Found:
		return tellTexts(a)
	case api.Done:
		return "+done\n"
	case api.Gone:
		return ":1\n"
	case api.None:
		return ":0\n"
	}
	return "-" + a.Word + "\n"
}

func tellTexts(a api.Answer) string {
	var out strings.Builder
	if len(a.Found) > 1 {
		out.WriteString("*" + strconv.Itoa(len(a.Found)) + "\n")
	}
	for i, found := range a.Found {
		if found {
			out.WriteString("$" + sized(a.Values[i]))
		} else {
			out.WriteString("$-1\n")
		}
	}
	return out.String()
}
