// Package junction: three ways of asking, and many who answer: see DOC.md.
package junction

import (
	"junction/api"
	"junction/check"
	"junction/ring"
	"junction/speech"
)

// Ask tells a command's bytes (P4).
func Ask(dialect int, c api.Command, id int) (string, api.Errno) {
	d, ok := speech.Of(dialect)
	if !ok || !check.Command(c) || !d.CanSay(c, id) {
		return "", api.ErrArg
	}
	return d.Ask(c, id), api.OK
}

// Tell tells an answer's bytes (P4).
func Tell(dialect int, c api.Command, a api.Answer, id int) (string, api.Errno) {
	d, ok := speech.Of(dialect)
	if !ok || !check.Answer(c, a) || !d.CanSay(c, id) {
		return "", api.ErrArg
	}
	return d.Tell(c, a, id), api.OK
}

// Owner tells the server that has a key (P5).
func Owner(servers, points int, key string) (int, api.Errno) {
	if !check.Ring(servers, points) || !check.Key(key) {
		return 0, api.ErrArg
	}
	return ring.Owner(servers, points, key), api.OK
}

// Junction stands between clients and servers.
type Junction struct{}

// New makes a junction (P6).
func New(c api.Config) (*Junction, api.Errno) { return nil, api.OK }

// Open opens a client (P6).
func (x *Junction) Open(dialect int) (int, api.Errno) { return 0, api.OK }

// Say: a client says something (P6).
func (x *Junction) Say(client int, piece string) api.Errno { return api.OK }

// Answer: something comes from a server (P7).
func (x *Junction) Answer(server int, piece string) api.Errno { return api.OK }

// Down: a server goes down (P7).
func (x *Junction) Down(server int) api.Errno { return api.OK }

// Up: a server is up again (P7).
func (x *Junction) Up(server int) api.Errno { return api.OK }

// Told tells what a client was told (P8).
func (x *Junction) Told(client int) (string, api.Errno) { return "", api.OK }

// Sent tells what a server was sent (P8).
func (x *Junction) Sent(server int) (string, api.Errno) { return "", api.OK }
