package promises

import (
	"maps"
	"slices"
	"testing"

	"junction/api"
	"junction/junction"
)

// model tells what a junction is to tell and to send, by plain lists and texts.
// It hears all that a client says, and holds it back itself.
type model struct {
	config  api.Config
	clients []*modelClient
	servers []*modelServer
}

type modelClient struct {
	dialect int
	reader  *junction.Reader
	heard   []api.Command // not read yet
	waiting []modelCommand
	told    string
}

type modelCommand struct {
	command api.Command
	parts   []*modelPart
}

// modelPart is one key that a server is asked for.
type modelPart struct {
	client int
	kind   int
	status int // open and down beside those of an answer
	value  string
}

const (
	open = -1
	down = 3
)

type modelServer struct {
	down  bool
	next  int
	parts map[int]*modelPart // what waits, by ID
	came  string
	sent  string
}

func newModel(c api.Config) *model {
	m := &model{config: c}
	for range c.Servers {
		m.servers = append(m.servers, &modelServer{parts: map[int]*modelPart{}})
	}
	return m
}

func (m *model) open(t *testing.T, dialect int) {
	m.clients = append(m.clients, &modelClient{dialect: dialect, reader: reader(t, dialect)})
}

func (m *model) say(t *testing.T, client int, piece string) {
	c := m.clients[client]
	c.heard = append(c.heard, c.reader.Feed(piece)...)
	m.readOn(t, client)
}

func (m *model) readOn(t *testing.T, client int) {
	c := m.clients[client]
	c.tell()
	for len(c.heard) > 0 && len(c.waiting) < m.config.Window {
		command := c.heard[0]
		c.heard = c.heard[1:]
		w := modelCommand{command: command}
		for _, key := range command.Keys {
			p := &modelPart{client: client, kind: command.Kind, status: open}
			w.parts = append(w.parts, p)
			m.servers[owner(t, m.config, key)].send(p, key, command.Value)
		}
		c.waiting = append(c.waiting, w)
		c.tell()
	}
}

func (s *modelServer) send(p *modelPart, key, value string) {
	if s.down {
		p.status = down
		return
	}
	for s.parts[s.next] != nil {
		s.next = (s.next + 1) % (1 << 16)
	}
	s.parts[s.next] = p
	s.sent += request(p.kind, key, value, s.next)
	s.next = (s.next + 1) % (1 << 16)
}

func (c *modelClient) tell() {
	for len(c.waiting) > 0 && c.waiting[0].ready() {
		w := c.waiting[0]
		c.waiting = c.waiting[1:]
		c.told += toldText(c.dialect, w.command, w.parts)
	}
}

func (w modelCommand) ready() bool {
	for _, p := range w.parts {
		if p.status == open {
			return false
		}
	}
	return true
}

// answer: something comes from a server.
func (m *model) answer(t *testing.T, server int, piece string) api.Errno {
	if server < 0 || server >= len(m.servers) {
		return api.ErrArg
	}
	s := m.servers[server]
	if s.down {
		return api.ErrDown
	}
	s.came += piece
	for len(s.came) >= 7 {
		f := s.came
		size := int(f[3]) + 256*int(f[4])
		if f[0] != 2 || f[1] > 2 || f[2] != 0 || size > 40 {
			return m.goDown(t, server)
		}
		if len(f) < 7+size {
			break
		}
		p := s.parts[int(f[5])+256*int(f[6])]
		if p == nil || size > 0 && (p.kind != api.Get || f[1] != 0) {
			return m.goDown(t, server)
		}
		delete(s.parts, int(f[5])+256*int(f[6]))
		s.came = f[7+size:]
		p.status, p.value = int(f[1]), f[7:7+size]
		m.readOn(t, p.client)
	}
	return api.OK
}

func (m *model) goDown(t *testing.T, server int) api.Errno {
	if server < 0 || server >= len(m.servers) {
		return api.ErrArg
	}
	s := m.servers[server]
	if s.down {
		return api.ErrDown
	}
	s.down = true
	s.came = ""
	for _, p := range s.parts {
		p.status = down
	}
	s.parts = map[int]*modelPart{}
	for i := range m.clients {
		m.readOn(t, i)
	}
	return api.OK
}

func (m *model) goUp(server int) api.Errno {
	if server < 0 || server >= len(m.servers) {
		return api.ErrArg
	}
	if !m.servers[server].down {
		return api.ErrUp
	}
	m.servers[server].down = false
	return api.OK
}

// waitingIDs tells by which IDs parts wait for a server.
func (m *model) waitingIDs(server int) []int {
	return slices.Sorted(maps.Keys(m.servers[server].parts))
}

// toldText is how a dialect tells what a command with these parts came to.
func toldText(dialect int, c api.Command, parts []*modelPart) string {
	if c.Kind == api.Wrong {
		return failText(dialect, c.Word)
	}
	worst := 0
	for _, p := range parts {
		worst = max(worst, p.status)
	}
	word := [...]string{2: api.Refused, 3: api.Broken}
	switch {
	case dialect == api.Frames && worst >= 2:
		return head(2, 2, 0, 0, c.ID)
	case worst >= 2:
		return failText(dialect, word[worst])
	case dialect == api.Frames && c.Kind == api.Set:
		return head(2, 0, 0, 0, c.ID)
	case dialect == api.Frames:
		return head(2, worst, 0, len(parts[0].value), c.ID) + parts[0].value
	case c.Kind == api.Get && dialect == api.Lines:
		return foundLines(c, parts)
	case c.Kind == api.Get:
		return foundLists(parts)
	case dialect == api.Lines:
		return map[int]string{api.Set: "done\n", api.Delete: [...]string{"gone\n", "none\n"}[worst]}[c.Kind]
	}
	return map[int]string{api.Set: "+done\n", api.Delete: [...]string{":1\n", ":0\n"}[worst]}[c.Kind]
}

func foundLines(c api.Command, parts []*modelPart) string {
	text := ""
	for i, p := range parts {
		if p.status == 0 {
			text += "value " + c.Keys[i] + " " + decimal(len(p.value)) + "\n" + p.value + "\n"
		}
	}
	return text + "end\n"
}

func foundLists(parts []*modelPart) string {
	text := ""
	if len(parts) > 1 {
		text = "*" + decimal(len(parts)) + "\n"
	}
	for _, p := range parts {
		if p.status == 0 {
			text += "$" + decimal(len(p.value)) + "\n" + p.value + "\n"
		} else {
			text += "$-1\n"
		}
	}
	return text
}

// failText is how a dialect tells that something has failed; in frames, that
// something was wrong.
func failText(dialect int, word string) string {
	switch dialect {
	case api.Lines:
		return "fail " + word + "\n"
	case api.Frames:
		return head(2, 2, 0, 0, 0)
	}
	return "-" + word + "\n"
}

// request is what a server is sent for one key.
func request(kind int, key, value string, id int) string {
	return head(1, kind, len(key), len(value), id) + key + value
}

// reply is what a server answers.
func reply(status, id int, value string) string {
	return head(2, status, 0, len(value), id) + value
}

func owner(t *testing.T, c api.Config, key string) int {
	t.Helper()
	o, e := junction.Owner(c.Servers, c.Points, key)
	if e != api.OK {
		t.Fatalf("Owner(%d, %d, %q) = %d, %d", c.Servers, c.Points, key, o, e)
	}
	return o
}

// compare holds a junction against the model.
func (m *model) compare(t *testing.T, x *junction.Junction) {
	t.Helper()
	for i, c := range m.clients {
		wantTold(t, x, i, c.told)
	}
	for i, s := range m.servers {
		wantSent(t, x, i, s.sent)
	}
}
