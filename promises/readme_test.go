package promises

import (
	"testing"

	"junction/api"
)

// What README.md shows of a server that answers, goes down and comes up.
func TestReadme(t *testing.T) {
	y := joined(t, api.Config{Servers: 1, Points: 1, Window: 2}, api.Lines)
	say(t, y, 0, "get a\nget b\n")
	hear(t, y, 0, "\x02\x00\x00\x01\x00\x00\x00z")
	wantTold(t, y, 0, "value a 1\nz\nend\n")
	goDown(t, y, 0)
	wantTold(t, y, 0, "value a 1\nz\nend\nfail down\n")
	if e := y.Answer(0, ""); e != api.ErrDown {
		t.Errorf("Answer of one that is down = %d", e)
	}
	goUp(t, y, 0)
	sent, _ := y.Sent(0)
	say(t, y, 0, "get c\n")
	wantSent(t, y, 0, sent+request(api.Get, "c", "", 2))
}
