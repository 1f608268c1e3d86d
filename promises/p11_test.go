package promises

import (
	"math/rand"
	"strings"
	"testing"

	"junction/api"
	"junction/junction"
)

// listener is a client whose commands have keys that no other command has; what
// is found of one has its key as its value.
type listener struct {
	dialect  int
	commands []api.Command
	count    int    // how many were told
	told     string // what was told of them
}

// mayBeTold has all that a command may come to.
func mayBeTold(dialect int, c api.Command) []string {
	all := [][]*modelPart{nil}
	for i, key := range c.Keys {
		var more [][]*modelPart
		for _, parts := range all {
			for _, s := range []int{0, 1, 2, down} {
				p := &modelPart{status: s}
				if s == 0 && c.Kind == api.Get {
					p.value = "of " + key
				}
				more = append(more, append(parts[:i:i], p))
			}
		}
		all = more
	}
	var texts []string
	for _, parts := range all {
		texts = append(texts, toldText(dialect, c, parts))
	}
	return texts
}

// hear looks at what the client was told: what it was told earlier, and its
// next commands, one by one.
func (l *listener) hear(t *testing.T, x *junction.Junction, client int) {
	t.Helper()
	told, _ := x.Told(client)
	rest, ok := strings.CutPrefix(told, l.told)
	for ok && rest != "" && l.count < len(l.commands) {
		rest, ok = cutLongest(rest, mayBeTold(l.dialect, l.commands[l.count]))
		l.count++
	}
	if !ok || rest != "" {
		t.Fatalf("client %d, with %d commands told of %+v, was told %q, behind %q", client, l.count, l.commands, rest, l.told)
	}
	l.told = told
}

// cutLongest takes the longest of these off the front of a text.
func cutLongest(text string, fronts []string) (string, bool) {
	n := -1
	for _, f := range fronts {
		if strings.HasPrefix(text, f) {
			n = max(n, len(f))
		}
	}
	return text[max(n, 0):], n >= 0
}

// uniqueCommands has commands with keys that are nobody else's.
func uniqueCommands(random *rand.Rand, client, dialect, length int) []api.Command {
	var all []api.Command
	for i := range length {
		key := func(n int) string {
			return string(rune('a'+client)) + decimal(i) + string(rune('p'+n))
		}
		var c api.Command
		switch n := random.Intn(8); {
		case n < 4 && dialect == api.Frames:
			c = get(key(0))
		case n < 4:
			c = get([]string{key(0), key(1), key(2), key(3)}[:1+random.Intn(4)]...)
		case n < 6:
			c = set(key(0), "value")
		default:
			c = del(key(0))
		}
		if dialect == api.Frames {
			c.ID = 1000*client + i
		}
		all = append(all, c)
	}
	return all
}

// anyAnswers is what a server may say that was sent this: some of it right, in
// any order, twice at times, and nonsense.
func anyAnswers(random *rand.Rand, sent string, nonsense int) string {
	var frames []string
	for sent != "" {
		end := 7 + int(sent[2]) + int(sent[3])
		frames = append(frames, sent[:end])
		sent = sent[end:]
	}
	text := ""
	for range random.Intn(4) {
		if len(frames) == 0 || random.Intn(100) < nonsense {
			text += sureNonsense(random, random.Intn(40))
			continue
		}
		f := frames[len(frames)-1-random.Intn(min(len(frames), 6))]
		key, status := f[7:7+int(f[2])], random.Intn(3)
		value := ""
		if status == 0 && f[1] == api.Get {
			value = "of " + key
		}
		text += reply(status, int(f[5])+256*int(f[6]), value)
	}
	return text
}

// sureNonsense is never what was found of a key.
func sureNonsense(random *rand.Rand, id int) string {
	switch random.Intn(6) {
	case 0:
		return head(3+random.Intn(253), 0, 0, 0, id)
	case 1:
		return head(2, 3+random.Intn(253), 0, 0, id)
	case 2:
		return head(2, 0, 1+random.Intn(255), 0, id)
	case 3:
		return head(2, 0, 0, 41+random.Intn(65000), id)
	case 4:
		return reply(1+random.Intn(2), id, "x")
	}
	return reply(random.Intn(3), 60000+random.Intn(5000), "")
}

// Whatever servers say, each command is told once and in its turn, with what
// came by its own parts; when all servers are down, all are told.
func TestToldOnceWhateverServersSay(t *testing.T) {
	random := rand.New(rand.NewSource(110))
	for range 400 {
		c := someConfig(random)
		x := joined(t, c)
		nonsense := []int{0, 2, 50}[random.Intn(3)]
		var listeners []*listener
		var texts []string
		for i := range 1 + random.Intn(api.MaxClients) {
			d := dialects[random.Intn(3)]
			x.Open(d)
			listeners = append(listeners, &listener{dialect: d, commands: uniqueCommands(random, i, d, 20)})
			texts = append(texts, textOfCommands(t, d, listeners[i].commands))
		}
		look := func() {
			for i, l := range listeners {
				l.hear(t, x, i)
			}
		}
		for range 60 {
			i := random.Intn(len(texts))
			say(t, x, i, cut(random, &texts[i]))
			s := random.Intn(c.Servers)
			sent, _ := x.Sent(s)
			if e := x.Answer(s, anyAnswers(random, sent, nonsense)); e == api.ErrDown && random.Intn(2) == 0 {
				goUp(t, x, s)
			}
			look()
		}
		for s := range c.Servers {
			x.Down(s)
			look()
		}
		for i, l := range listeners {
			say(t, x, i, texts[i])
			look()
			if l.count != len(l.commands) {
				t.Fatalf("client %d was told %d of %d commands, with all servers down", i, l.count, len(l.commands))
			}
		}
	}
}

// An ID that was another client's, ahead of the server's going down, answers
// nobody; one that is given again answers the one that waits now.
func TestNobodyElsesAnswer(t *testing.T) {
	x := joined(t, single, api.Lines, api.Lines)
	say(t, x, 0, "get mine\n")
	goDown(t, x, 0)
	goUp(t, x, 0)
	say(t, x, 1, "get yours\n")
	hear(t, x, 0, reply(0, 0, "mine"))
	wantTold(t, x, 0, "fail down\n")
	wantTold(t, x, 1, "fail down\n")
	goUp(t, x, 0)
	for id := 2; id < 1<<16; id++ {
		say(t, x, 0, "del mine\n")
		hear(t, x, 0, reply(1, id, ""))
	}
	say(t, x, 1, "get yours\n")
	hear(t, x, 0, reply(0, 0, "yours"))
	wantTold(t, x, 1, "fail down\nvalue yours 5\nyours\nend\n")
}

// A client is told as soon as the first that waits is answered in all its
// parts: with each byte that comes, as the model says.
func TestToldAsSoonAsAnswered(t *testing.T) {
	random := rand.New(rand.NewSource(111))
	for range 150 {
		p := newPair(t, random)
		for range 40 {
			p.step(t, random)
			i := random.Intn(len(p.answers))
			text := p.someAnswers(random, i, 10)
			for at := range len(text) {
				if a, b := p.x.Answer(i, text[at:at+1]), p.m.answer(t, i, text[at:at+1]); a != b {
					t.Fatalf("Answer = %d, want %d", a, b)
				}
				p.m.compare(t, p.x)
			}
			if random.Intn(8) == 0 {
				p.x.Up(i)
				p.m.goUp(i)
			}
		}
	}
}
