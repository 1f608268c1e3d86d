package promises

import (
	"math/rand"
	"slices"
	"testing"

	"junction/api"
	"junction/junction"
)

func joined(t *testing.T, c api.Config, dialects ...int) *junction.Junction {
	t.Helper()
	x, e := junction.New(c)
	if x == nil || e != api.OK {
		t.Fatalf("New(%+v) = %v, %d", c, x, e)
	}
	for i, d := range dialects {
		if n, e := x.Open(d); n != i || e != api.OK {
			t.Fatalf("Open(%d) = %d, %d, want %d", d, n, e, i)
		}
	}
	return x
}

func say(t *testing.T, x *junction.Junction, client int, pieces ...string) {
	t.Helper()
	for _, p := range pieces {
		if e := x.Say(client, p); e != api.OK {
			t.Fatalf("Say(%d, %q) = %d", client, p, e)
		}
	}
}

// hear: pieces come from a server that is up.
func hear(t *testing.T, x *junction.Junction, server int, pieces ...string) {
	t.Helper()
	for _, p := range pieces {
		if e := x.Answer(server, p); e != api.OK {
			t.Fatalf("Answer(%d, %q) = %d", server, p, e)
		}
	}
}

func goDown(t *testing.T, x *junction.Junction, server int) {
	t.Helper()
	if e := x.Down(server); e != api.OK {
		t.Fatalf("Down(%d) = %d", server, e)
	}
}

func goUp(t *testing.T, x *junction.Junction, server int) {
	t.Helper()
	if e := x.Up(server); e != api.OK {
		t.Fatalf("Up(%d) = %d", server, e)
	}
}

// wantUp looks whether a server is up, which changes nothing.
func wantUp(t *testing.T, x *junction.Junction, server int) {
	t.Helper()
	if e := x.Up(server); e != api.ErrUp {
		t.Fatalf("Up(%d) of one that is to be up = %d", server, e)
	}
}

// wantDown looks whether a server is down, which changes nothing.
func wantDown(t *testing.T, x *junction.Junction, server int) {
	t.Helper()
	if e := x.Down(server); e != api.ErrDown {
		t.Fatalf("Down(%d) of one that is to be down = %d", server, e)
	}
}

func wantTold(t *testing.T, x *junction.Junction, client int, want string) {
	t.Helper()
	if s, e := x.Told(client); s != want || e != api.OK {
		t.Fatalf("Told(%d) = %q, %d, want %q", client, s, e, want)
	}
}

func wantSent(t *testing.T, x *junction.Junction, server int, want string) {
	t.Helper()
	if s, e := x.Sent(server); s != want || e != api.OK {
		t.Fatalf("Sent(%d) = %q, %d, want %q", server, s, e, want)
	}
}

// someConfig is one of those that may be.
func someConfig(random *rand.Rand) api.Config {
	return api.Config{
		Servers: 1 + random.Intn(api.MaxServers),
		Points:  1 + random.Intn(api.MaxPoints),
		Window:  1 + random.Intn(api.MaxWindow),
	}
}

// someTalk is what a client says: of each ten things some are wrong, so that
// more is read than the window has room for; now and then the last is fatal.
func someTalk(random *rand.Rand, dialect, length int) string {
	items := itemsOf(dialect)
	right := slices.DeleteFunc(slices.Clone(items), func(i item) bool { return i.c.Kind == api.Wrong })
	wrongs := slices.DeleteFunc(slices.Clone(items), func(i item) bool { return i.c.Kind != api.Wrong || i.c.Fatal })
	fatals := slices.DeleteFunc(slices.Clone(items), func(i item) bool { return !i.c.Fatal })
	text := ""
	for range length {
		from := right
		if len(wrongs) > 0 && random.Intn(10) < 6 {
			from = wrongs
		} else if len(fatals) > 0 && random.Intn(10) == 0 {
			from = fatals
		}
		text += from[random.Intn(len(from))].text
	}
	return text
}

// pair is a junction and its model, to which the same is said.
type pair struct {
	x       *junction.Junction
	m       *model
	texts   []string // what each client has still to say
	answers []string // what each server has still to answer
}

func newPair(t *testing.T, random *rand.Rand) *pair {
	c := someConfig(random)
	p := &pair{x: joined(t, c), m: newModel(c), answers: make([]string, c.Servers)}
	for i := range 1 + random.Intn(api.MaxClients) {
		d := dialects[random.Intn(len(dialects))]
		if n, e := p.x.Open(d); n != i || e != api.OK {
			t.Fatalf("Open(%d) = %d, %d, want %d", d, n, e, i)
		}
		p.m.open(t, d)
		p.texts = append(p.texts, someTalk(random, d, random.Intn(12)))
	}
	return p
}

// cut takes a random piece off the front of a text.
func cut(random *rand.Rand, text *string) string {
	n := min(len(*text), random.Intn(30))
	piece := (*text)[:n]
	*text = (*text)[n:]
	return piece
}

// step lets one of the clients say a piece; it tells whether any has more.
func (p *pair) step(t *testing.T, random *rand.Rand) bool {
	i := random.Intn(len(p.texts))
	piece := cut(random, &p.texts[i])
	say(t, p.x, i, piece)
	p.m.say(t, i, piece)
	p.m.compare(t, p.x)
	return slices.ContainsFunc(p.texts, func(s string) bool { return s != "" })
}

// serve lets one of the servers answer a piece, or go down, or come up.
// Of a hundred answers so many are nonsense.
func (p *pair) serve(t *testing.T, random *rand.Rand, nonsense int) {
	i := random.Intn(len(p.answers))
	got, want := api.OK, api.OK
	switch n := random.Intn(100); {
	case n < 2:
		got, want = p.x.Down(i), p.m.goDown(t, i)
	case n < 10 || n < 40 && p.m.servers[i].down:
		got, want = p.x.Up(i), p.m.goUp(i)
	default:
		if p.answers[i] == "" {
			p.answers[i] = p.someAnswers(random, i, nonsense)
		}
		piece := cut(random, &p.answers[i])
		got, want = p.x.Answer(i, piece), p.m.answer(t, i, piece)
	}
	if got != want {
		t.Fatalf("server %d: %d, want %d", i, got, want)
	}
	p.m.compare(t, p.x)
}

// someAnswers answers some of what waits for a server, in any order.
func (p *pair) someAnswers(random *rand.Rand, server, nonsense int) string {
	ids := p.m.waitingIDs(server)
	random.Shuffle(len(ids), func(a, b int) { ids[a], ids[b] = ids[b], ids[a] })
	text := ""
	for _, id := range ids[:min(len(ids), 1+random.Intn(4))] {
		if random.Intn(100) < nonsense {
			text += someNonsense(random, id)
			continue
		}
		status := max(0, random.Intn(5)-2)
		value := ""
		if p.m.servers[server].parts[id].kind == api.Get && status == 0 {
			value = bytesUpTo(40)[:random.Intn(41)]
		}
		text += reply(status, id, value)
	}
	return text
}

// someNonsense is, most often, nothing that may be answered by this ID.
func someNonsense(random *rand.Rand, id int) string {
	switch random.Intn(8) {
	case 0:
		return head(random.Intn(256), 0, 0, 0, id)
	case 1:
		return head(2, random.Intn(256), 0, 0, id)
	case 2:
		return head(2, 0, random.Intn(256), 0, id)
	case 3:
		return head(2, 0, 0, random.Intn(1<<16), id)
	case 4:
		return reply(random.Intn(3), id, "x")
	case 5:
		return reply(0, random.Intn(1<<16), "")
	case 6:
		return reply(1, id+1, "")
	}
	return reply(1, id, "") + reply(1, id, "")
}
