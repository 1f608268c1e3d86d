package junction

import (
	"testing"

	"junction/api"
)

// IDs run from 0 to 65535 and begin again; those that wait are passed over.
func TestFreeID(t *testing.T) {
	s := newServer()
	for _, id := range []uint16{0, 1, 5, 6, 7, 65534, 65535} {
		s.waiting[id] = part{}
	}
	for round := range 2 {
		for want := range 1 << 16 {
			if _, waits := s.waiting[uint16(want)]; waits {
				continue
			}
			if id := s.freeID(); int(id) != want {
				t.Fatalf("round %d: freeID = %d, want %d", round, id, want)
			}
		}
	}
}

// What is sent waits under the ID that it was sent with.
func TestSendWaits(t *testing.T) {
	s := newServer()
	s.next = 65535
	s.waiting[0] = part{key: -1}
	q := newQuestion(api.Command{Kind: api.Get, Keys: []string{"a", "b"}})
	c := &client{}
	s.send(part{client: c, question: q, key: 0})
	s.send(part{client: c, question: q, key: 1})
	if want := "\x01\x01\x01\x00\x00\xff\xffa\x01\x01\x01\x00\x00\x01\x00b"; s.sent.String() != want {
		t.Errorf("sent %q, want %q", s.sent.String(), want)
	}
	for id, want := range map[uint16]part{65535: {c, q, 0}, 0: {key: -1}, 1: {c, q, 1}} {
		if got, ok := s.waiting[id]; !ok || got != want {
			t.Errorf("by %d waits %+v, %v, want %+v", id, got, ok, want)
		}
	}
}
