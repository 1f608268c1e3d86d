package junction

import (
	"slices"
	"strings"
)

// client is one who asks.
type client struct {
	reader  *Reader
	places  chan struct{} // has room for Window; each question that waits has its place in it
	waiting []*question   // in the order in which they were asked
	told    strings.Builder
}

func newClient(r *Reader, window int) *client {
	return &client{reader: r, places: make(chan struct{}, window)}
}

// next reads one command more, if another one may wait, and it is whole.
func (c *client) next() (*question, bool) {
	// The place comes first: what is read could not be put back.
	select {
	case c.places <- struct{}{}:
	default:
		return nil, false
	}
	command, ok := c.reader.read()
	if !ok {
		<-c.places
		return nil, false
	}
	q := newQuestion(command)
	c.waiting = append(c.waiting, q)
	return q, true
}

// tell tells what can be told: the first that waits, again and again, until
// it is one that is not answered.
func (c *client) tell() {
	for len(c.waiting) > 0 && c.waiting[0].answered() {
		q := c.waiting[0]
		c.told.WriteString(c.reader.dialect.Tell(q.command, q.answer(), q.command.ID))
		c.waiting = slices.Delete(c.waiting, 0, 1)
		<-c.places
	}
}
