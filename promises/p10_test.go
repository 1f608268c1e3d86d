package promises

import (
	"math/rand"
	"slices"
	"testing"

	"junction/api"
	"junction/junction"
)

// store keeps keys in one place, and does what it is told.
type store map[string]string

// do does a command with one key: what comes of it.
func (s store) do(kind int, key, value string) *modelPart {
	old, there := s[key]
	p := &modelPart{kind: kind, status: 1}
	if there {
		p.status = 0
	}
	switch kind {
	case api.Get:
		p.value = old
	case api.Set:
		s[key] = value
		p.status = 0
	case api.Delete:
		delete(s, key)
	}
	return p
}

// alone tells what a client is told whose commands are done one by one, with
// all keys in one place.
func alone(dialect int, commands []api.Command) string {
	kept := store{}
	told := ""
	for _, c := range commands {
		var parts []*modelPart
		for _, k := range c.Keys {
			parts = append(parts, kept.do(c.Kind, k, c.Value))
		}
		told += toldText(dialect, c, parts)
	}
	return told
}

// keeper is a server that keeps what it is told, and answers each command once.
type keeper struct {
	store   store
	read    int      // how much of what was sent
	answers []string // not given yet
}

// work does what was sent since, in its order.
func (k *keeper) work(t *testing.T, sent string, random *rand.Rand) {
	t.Helper()
	for k.read < len(sent) {
		f := sent[k.read:]
		if len(f) < 7 || f[0] != 1 || f[4] != 0 || len(f) < 7+int(f[2])+int(f[3]) {
			t.Fatalf("what was sent is no command: %q", f)
		}
		key, end := f[7:7+int(f[2])], 7+int(f[2])+int(f[3])
		p := k.store.do(int(f[1]), key, f[7+len(key):end])
		if p.kind == api.Set {
			p.status = random.Intn(2) // both are done
		}
		k.answers = append(k.answers, reply(p.status, int(f[5])+256*int(f[6]), p.value))
		k.read += end
	}
}

// give takes one of the answers, whichever.
func (k *keeper) give(random *rand.Rand) string {
	if len(k.answers) == 0 {
		return ""
	}
	i := random.Intn(len(k.answers))
	a := k.answers[i]
	k.answers = slices.Delete(k.answers, i, i+1)
	return a
}

// ownCommands has what a client asks for, of keys that are its own; some of it
// is wrong.
func ownCommands(random *rand.Rand, client, dialect, length int) []api.Command {
	key := func() string { return "k" + decimal(client) + decimal(random.Intn(4)) }
	var all []api.Command
	for len(all) < length {
		switch n := random.Intn(10); {
		case n < 3 && dialect == api.Frames:
			all = append(all, get(key()))
		case n < 3:
			all = append(all, get([]string{key(), key(), key(), key()}[:1+random.Intn(4)]...))
		case n < 6:
			all = append(all, set(key(), bytesUpTo(40)[:random.Intn(41)]))
		case n < 9:
			all = append(all, del(key()))
		case dialect != api.Frames:
			all = append(all, wrong(map[int]string{api.Lines: api.Form, api.Lists: api.Data}[dialect]))
		}
	}
	for i := range all {
		if dialect == api.Frames {
			all[i].ID = random.Intn(1 << 16)
		}
	}
	return all
}

// textOfCommands is how a client says them.
func textOfCommands(t *testing.T, dialect int, commands []api.Command) string {
	t.Helper()
	text := ""
	for _, c := range commands {
		switch {
		case c.Kind != api.Wrong:
			text += ask(t, dialect, c, c.ID)
		case dialect == api.Lines:
			text += "get  a\n"
		default:
			text += list("get")
		}
	}
	return text
}

// meeting is a junction with clients that have keys of their own, and servers
// that keep what they are told.
type meeting struct {
	x       *junction.Junction
	texts   []string // what clients have still to say
	keepers []*keeper
	saying  []string // what of an answer a server has still to say
	want    []string
}

func newMeeting(t *testing.T, random *rand.Rand) *meeting {
	c := someConfig(random)
	w := &meeting{x: joined(t, c), saying: make([]string, c.Servers)}
	for range c.Servers {
		w.keepers = append(w.keepers, &keeper{store: store{}})
	}
	for i := range 1 + random.Intn(api.MaxClients) {
		d := dialects[random.Intn(3)]
		w.x.Open(d)
		commands := ownCommands(random, i, d, random.Intn(30))
		w.texts = append(w.texts, textOfCommands(t, d, commands))
		w.want = append(w.want, alone(d, commands))
	}
	return w
}

// step: a client says a piece, or a server a piece of its answers.
func (w *meeting) step(t *testing.T, random *rand.Rand) {
	t.Helper()
	if i := random.Intn(3 * len(w.texts)); i < len(w.texts) {
		say(t, w.x, i, cut(random, &w.texts[i]))
		return
	}
	i := random.Intn(len(w.keepers))
	sent, _ := w.x.Sent(i)
	w.keepers[i].work(t, sent, random)
	for range random.Intn(4) {
		w.saying[i] += w.keepers[i].give(random)
	}
	hear(t, w.x, i, cut(random, &w.saying[i]))
}

// over: nobody has more to say.
func (w *meeting) over() bool {
	for i, k := range w.keepers {
		sent, _ := w.x.Sent(i)
		if k.read < len(sent) || len(k.answers) > 0 || w.saying[i] != "" {
			return false
		}
	}
	return !slices.ContainsFunc(w.texts, func(s string) bool { return s != "" })
}

// Clients are told what they would be told alone, with one place for all keys.
func TestToldAsIfAlone(t *testing.T) {
	random := rand.New(rand.NewSource(100))
	for range 500 {
		w := newMeeting(t, random)
		for n := 0; !w.over(); n++ {
			if n > 100000 {
				t.Fatalf("it does not end")
			}
			w.step(t, random)
		}
		for i, want := range w.want {
			wantTold(t, w.x, i, want)
		}
	}
}

// So with several junctions side by side.
func TestToldAsIfAloneSideBySide(t *testing.T) {
	random := rand.New(rand.NewSource(101))
	for range 30 {
		var all []*meeting
		for range 5 {
			all = append(all, newMeeting(t, random))
		}
		for slices.ContainsFunc(all, func(w *meeting) bool { return !w.over() }) {
			all[random.Intn(5)].step(t, random)
		}
		for _, w := range all {
			for i, want := range w.want {
				wantTold(t, w.x, i, want)
			}
		}
	}
}

// So with a client that is alone, at a server that answers at once.
func TestToldAsWithOneServer(t *testing.T) {
	random := rand.New(rand.NewSource(102))
	for range 300 {
		d := dialects[random.Intn(3)]
		commands := ownCommands(random, 0, d, 20)
		text := textOfCommands(t, d, commands)
		x := joined(t, api.Config{Servers: 1, Points: 1, Window: 1}, d)
		say(t, x, 0, text)
		one := &keeper{store: store{}}
		for sent, _ := x.Sent(0); one.read < len(sent); sent, _ = x.Sent(0) {
			one.work(t, sent, random)
			for len(one.answers) > 0 {
				hear(t, x, 0, one.give(random))
			}
		}
		wantTold(t, x, 0, alone(d, commands))
	}
}
