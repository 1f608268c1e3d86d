package junction

import (
	"strings"

	"junction/inbox"
	"junction/speech"
)

// server is one that keeps keys.
type server struct {
	down    bool
	next    uint16          // the ID that comes next; behind 65535 it wraps round to 0
	waiting map[uint16]part // what it was sent and has not answered
	in      inbox.Inbox     // what came from it and is no whole answer yet
	sent    strings.Builder
}

func newServer() *server { return &server{waiting: map[uint16]part{}} }

// send sends a part, which then waits for the server.
func (s *server) send(p part) {
	if s.down {
		p.question.fail()
		return
	}
	id := s.freeID()
	s.waiting[id] = p
	s.sent.WriteString(speech.ToServer(p.command(), int(id)))
}

// freeID tells the next ID by which no part waits. There is one: far fewer
// parts can wait than there are IDs.
func (s *server) freeID() uint16 {
	for {
		id := s.next
		s.next++
		if _, waits := s.waiting[id]; !waits {
			return id
		}
	}
}

// hear takes the next answer to its part, and tells who asked for that; nobody
// did, if no answer is whole. What is not sound is to bring the server down.
func (s *server) hear() (asker *client, sound bool) {
	r, ok := speech.FromServer(s.in.Waiting())
	if !ok || r.Used == 0 {
		return nil, ok
	}
	p, waits := s.waiting[r.ID]
	// A part whose answer is not sound goes on waiting, to fail with the others.
	if !waits || !p.mayBe(r) {
		return nil, false
	}
	s.in.Use(r.Used)
	delete(s.waiting, r.ID)
	p.question.take(p.key, r)
	return p.client, true
}

// fall takes the server down: nothing waits for it, and nothing that came from
// it counts. Parts fail in whatever order: none is told here.
func (s *server) fall() {
	s.down = true
	s.in = inbox.Inbox{}
	for _, p := range s.waiting {
		p.question.fail()
	}
	clear(s.waiting)
}
