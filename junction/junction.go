// Package junction: three ways of asking, and many who answer: see DOC.md.
package junction

import (
	"junction/api"
	"junction/check"
	"junction/ring"
	"junction/speech"
)

// Ask tells a command's bytes (P4).
func Ask(dialect int, c api.Command, id int) (string, api.Errno) {
	d, ok := speech.Of(dialect)
	if !ok || !check.Command(c) || !d.CanSay(c, id) {
		return "", api.ErrArg
	}
	return d.Ask(c, id), api.OK
}

// Tell tells an answer's bytes (P4).
func Tell(dialect int, c api.Command, a api.Answer, id int) (string, api.Errno) {
	d, ok := speech.Of(dialect)
	if !ok || !check.Answer(c, a) || !d.CanSay(c, id) {
		return "", api.ErrArg
	}
	return d.Tell(c, a, id), api.OK
}

// Owner tells the server that has a key (P5).
func Owner(servers, points int, key string) (int, api.Errno) {
	if !check.Ring(servers, points) || !check.Key(key) {
		return 0, api.ErrArg
	}
	return ring.Owner(servers, points, key), api.OK
}

// Junction stands between clients and servers.
type Junction struct {
	config  api.Config
	clients []*client
	servers []*server
}

// New makes a junction (P6).
func New(c api.Config) (*Junction, api.Errno) {
	if !check.Config(c) {
		return nil, api.ErrArg
	}
	x := &Junction{config: c}
	for range c.Servers {
		x.servers = append(x.servers, newServer())
	}
	return x, api.OK
}

// Open opens a client (P6).
func (x *Junction) Open(dialect int) (int, api.Errno) {
	r, e := Decoder(dialect)
	if e != api.OK || len(x.clients) == api.MaxClients {
		return 0, api.ErrArg
	}
	x.clients = append(x.clients, newClient(r, x.config.Window))
	return len(x.clients) - 1, api.OK
}

// Say: a client says something (P6).
func (x *Junction) Say(client int, piece string) api.Errno {
	c, e := at(x.clients, client)
	if e != api.OK {
		return e
	}
	c.reader.in.Take(piece)
	x.readOn(c)
	return api.OK
}

// Answer: something comes from a server (P7).
func (x *Junction) Answer(server int, piece string) api.Errno {
	s, e := x.standing(server)
	if e != api.OK {
		return e
	}
	s.in.Take(piece)
	x.listen(s)
	return api.OK
}

// Down: a server goes down (P7).
func (x *Junction) Down(server int) api.Errno {
	s, e := x.standing(server)
	if e != api.OK {
		return e
	}
	x.fall(s)
	return api.OK
}

// Up: a server is up again (P7).
func (x *Junction) Up(server int) api.Errno {
	s, e := at(x.servers, server)
	if e != api.OK {
		return e
	}
	if !s.down {
		return api.ErrUp
	}
	s.down = false
	return api.OK
}

// Told tells what a client was told (P8).
func (x *Junction) Told(client int) (string, api.Errno) {
	c, e := at(x.clients, client)
	if e != api.OK {
		return "", e
	}
	return c.told.String(), api.OK
}

// Sent tells what a server was sent (P8).
func (x *Junction) Sent(server int) (string, api.Errno) {
	s, e := at(x.servers, server)
	if e != api.OK {
		return "", e
	}
	return s.sent.String(), api.OK
}

// at tells the one of that number, if there is such a one.
func at[T any](list []*T, number int) (*T, api.Errno) {
	if number < 0 || number >= len(list) {
		return nil, api.ErrArg
	}
	return list[number], api.OK
}

// standing tells the server of that number, if there is one and it is up.
func (x *Junction) standing(number int) (*server, api.Errno) {
	s, e := at(x.servers, number)
	if e == api.OK && s.down {
		return nil, api.ErrDown
	}
	return s, e
}

// listen goes through what came from a server, answer by answer; whoever asked
// is told, and read on, ahead of the next one.
func (x *Junction) listen(s *server) {
	sound := true
	// Whatever way this is left, a fault is seen to, and that last: what was
	// answered ahead of it counts.
	defer func() {
		if !sound {
			x.fall(s)
		}
	}()
	for {
		var asker *client
		asker, sound = s.hear()
		if asker == nil {
			return
		}
		x.readOn(asker)
	}
}

// fall: a server goes down. All its parts have failed ahead of the first client
// that is told.
func (x *Junction) fall(s *server) {
	s.fall()
	for _, c := range x.clients {
		x.readOn(c)
	}
}

// readOn tells a client what can be told, and reads it as far as it may be
// read; each command is sent, and what can be told is told, ahead of the next.
func (x *Junction) readOn(c *client) {
	c.tell()
	for q, ok := c.next(); ok; q, ok = c.next() {
		x.send(c, q)
		c.tell()
	}
}

// send sends each part of a question to the owner of its key.
func (x *Junction) send(c *client, q *question) {
	for i, key := range q.command.Keys {
		owner := ring.Owner(x.config.Servers, x.config.Points, key)
		x.servers[owner].send(part{client: c, question: q, key: i})
	}
}
