package promises

import (
	"math/rand"
	"slices"
	"testing"

	"junction/api"
	"junction/junction"
)

// model tells what a junction is to tell and to send, as long as nothing comes
// from servers. It hears all that a client says, and holds it back itself.
type model struct {
	config  api.Config
	clients []*modelClient
	sent    []string
	ids     []int
}

type modelClient struct {
	dialect int
	reader  *junction.Reader
	heard   []api.Command // not read yet
	waiting int
	told    string
}

func newModel(c api.Config) *model {
	return &model{config: c, sent: make([]string, c.Servers), ids: make([]int, c.Servers)}
}

func (m *model) open(t *testing.T, dialect int) {
	m.clients = append(m.clients, &modelClient{dialect: dialect, reader: reader(t, dialect)})
}

func (m *model) say(t *testing.T, client int, piece string) {
	c := m.clients[client]
	c.heard = append(c.heard, c.reader.Feed(piece)...)
	for len(c.heard) > 0 && c.waiting < m.config.Window {
		command := c.heard[0]
		c.heard = c.heard[1:]
		if command.Kind == api.Wrong && c.waiting == 0 {
			c.told += failText(c.dialect, command.Word)
			continue
		}
		c.waiting++
		for _, key := range command.Keys {
			o := owner(t, m.config, key)
			m.sent[o] += request(command.Kind, key, command.Value, m.ids[o])
			m.ids[o]++
		}
	}
}

// failText is how a dialect tells that something wrong has failed.
func failText(dialect int, word string) string {
	switch dialect {
	case api.Lines:
		return "fail " + word + "\n"
	case api.Frames:
		return head(2, 2, 0, 0, 0)
	}
	return "-" + word + "\n"
}

// request is what a server is sent for one key.
func request(kind int, key, value string, id int) string {
	return head(1, kind, len(key), len(value), id) + key + value
}

func owner(t *testing.T, c api.Config, key string) int {
	t.Helper()
	o, e := junction.Owner(c.Servers, c.Points, key)
	if e != api.OK {
		t.Fatalf("Owner(%d, %d, %q) = %d, %d", c.Servers, c.Points, key, o, e)
	}
	return o
}

// compare holds a junction against the model.
func (m *model) compare(t *testing.T, x *junction.Junction) {
	t.Helper()
	for i, c := range m.clients {
		wantTold(t, x, i, c.told)
	}
	for i, s := range m.sent {
		wantSent(t, x, i, s)
	}
}

func joined(t *testing.T, c api.Config, dialects ...int) *junction.Junction {
	t.Helper()
	x, e := junction.New(c)
	if x == nil || e != api.OK {
		t.Fatalf("New(%+v) = %v, %d", c, x, e)
	}
	for i, d := range dialects {
		if n, e := x.Open(d); n != i || e != api.OK {
			t.Fatalf("Open(%d) = %d, %d, want %d", d, n, e, i)
		}
	}
	return x
}

func say(t *testing.T, x *junction.Junction, client int, pieces ...string) {
	t.Helper()
	for _, p := range pieces {
		if e := x.Say(client, p); e != api.OK {
			t.Fatalf("Say(%d, %q) = %d", client, p, e)
		}
	}
}

func wantTold(t *testing.T, x *junction.Junction, client int, want string) {
	t.Helper()
	if s, e := x.Told(client); s != want || e != api.OK {
		t.Fatalf("Told(%d) = %q, %d, want %q", client, s, e, want)
	}
}

func wantSent(t *testing.T, x *junction.Junction, server int, want string) {
	t.Helper()
	if s, e := x.Sent(server); s != want || e != api.OK {
		t.Fatalf("Sent(%d) = %q, %d, want %q", server, s, e, want)
	}
}

// someConfig is one of those that may be.
func someConfig(random *rand.Rand) api.Config {
	return api.Config{
		Servers: 1 + random.Intn(api.MaxServers),
		Points:  1 + random.Intn(api.MaxPoints),
		Window:  1 + random.Intn(api.MaxWindow),
	}
}

// someTalk is what a client says: of each ten things some are wrong, so that
// more is read than the window has room for; now and then the last is fatal.
func someTalk(random *rand.Rand, dialect, length int) string {
	items := itemsOf(dialect)
	right := slices.DeleteFunc(slices.Clone(items), func(i item) bool { return i.c.Kind == api.Wrong })
	wrongs := slices.DeleteFunc(slices.Clone(items), func(i item) bool { return i.c.Kind != api.Wrong || i.c.Fatal })
	fatals := slices.DeleteFunc(slices.Clone(items), func(i item) bool { return !i.c.Fatal })
	text := ""
	for range length {
		from := right
		if len(wrongs) > 0 && random.Intn(10) < 6 {
			from = wrongs
		} else if len(fatals) > 0 && random.Intn(10) == 0 {
			from = fatals
		}
		text += from[random.Intn(len(from))].text
	}
	return text
}

// pair is a junction and its model, to which the same is said.
type pair struct {
	x     *junction.Junction
	m     *model
	texts []string // what each client has still to say
}

func newPair(t *testing.T, random *rand.Rand) *pair {
	c := someConfig(random)
	p := &pair{x: joined(t, c), m: newModel(c)}
	for i := range 1 + random.Intn(api.MaxClients) {
		d := dialects[random.Intn(len(dialects))]
		if n, e := p.x.Open(d); n != i || e != api.OK {
			t.Fatalf("Open(%d) = %d, %d, want %d", d, n, e, i)
		}
		p.m.open(t, d)
		p.texts = append(p.texts, someTalk(random, d, random.Intn(12)))
	}
	return p
}

// step lets one of the clients say a piece; it tells whether any has more.
func (p *pair) step(t *testing.T, random *rand.Rand) bool {
	i := random.Intn(len(p.texts))
	n := min(len(p.texts[i]), random.Intn(30))
	piece := p.texts[i][:n]
	p.texts[i] = p.texts[i][n:]
	say(t, p.x, i, piece)
	p.m.say(t, i, piece)
	p.m.compare(t, p.x)
	return slices.ContainsFunc(p.texts, func(s string) bool { return s != "" })
}
