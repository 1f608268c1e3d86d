package junction

import (
	"strings"

	"junction/speech"
)

// server is one that keeps keys.
type server struct {
	next    uint16          // the ID that comes next; behind 65535 it wraps round to 0
	waiting map[uint16]part // what it was sent and has not answered
	sent    strings.Builder
}

func newServer() *server { return &server{waiting: map[uint16]part{}} }

// send sends a part, which then waits for the server.
func (s *server) send(p part) {
	id := s.freeID()
	s.waiting[id] = p
	s.sent.WriteString(speech.ToServer(p.command(), int(id)))
}

// freeID tells the next ID by which no part waits. There is one: far fewer
// parts can wait than there are IDs.
func (s *server) freeID() uint16 {
	for {
		id := s.next
		s.next++
		if _, waits := s.waiting[id]; !waits {
			return id
		}
	}
}
