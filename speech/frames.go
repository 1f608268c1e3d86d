package speech

import (
	"junction/api"
	"junction/check"
)

// frames is the dialect FRAMES.
type frames struct{}

const (
	head  = 7 // bytes ahead of the key and the value
	maxID = 65535

	asks  = 1 // the first byte of a command
	tells = 2 // the first byte of an answer

	// The statuses of an answer.
	StatusYes    = 0 // found, done, gone
	StatusNo     = 1 // not found, none
	StatusFailed = 2
)

func (frames) CanSay(c api.Command, id int) bool {
	// The keys of a wrong command are not looked at.
	return id >= 0 && id <= maxID && (c.Kind != api.Get || len(c.Keys) == 1)
}

func (frames) Read(b []byte) Step {
	if len(b) < head {
		return Step{}
	}
	if !headMayBe(b) {
		return fatal(wrong(api.Form, head))
	}
	keyEnd := head + int(b[2])
	end := keyEnd + number(b[3:5])
	if len(b) < end {
		return Step{}
	}
	key := string(b[head:keyEnd])
	if !check.Key(key) {
		return fatal(wrong(api.Form, end))
	}
	c := api.Command{
		Kind:  int(b[1]),
		Keys:  []string{key},
		Value: string(b[keyEnd:end]),
		ID:    number(b[5:head]),
	}
	return Step{Command: c, Used: end}
}

func headMayBe(b []byte) bool {
	kind, size := int(b[1]), number(b[3:5])
	if b[0] != asks || kind < api.Get || kind > api.Delete {
		return false
	}
	if b[2] < 1 || b[2] > api.MaxKey {
		return false
	}
	return size == 0 || kind == api.Set && size <= api.MaxValue
}

// number reads two bytes, the lower one first.
func number(b []byte) int { return int(b[0]) + int(b[1])<<8 }

// frame writes the seven bytes.
func frame(first, second, third, size, id int) string {
	return string([]byte{
		byte(first), byte(second), byte(third),
		byte(size), byte(size >> 8),
		byte(id), byte(id >> 8),
	})
}

func (frames) Ask(c api.Command, id int) string {
	key := c.Keys[0]
	return frame(asks, c.Kind, len(key), len(c.Value), id) + key + c.Value
}

// ToServer writes a command with one key, as it is sent to a server: servers
// speak frames, whatever the client speaks.
func ToServer(c api.Command, id int) string { return frames{}.Ask(c, id) }

// Reply is an answer of a server to a command with one key.
type Reply struct {
	Status int
	ID     uint16
	Value  string
	Used   int // its bytes; 0: it is not whole yet
}

// FromServer tells what the first of these bytes, that came from a server, come
// to; it is not ok, if they are written wrong.
func FromServer(b []byte) (r Reply, ok bool) {
	if len(b) < head {
		return Reply{}, true
	}
	end := head + number(b[3:5])
	if b[0] != tells || b[1] > StatusFailed || b[2] != 0 || end > head+api.MaxValue {
		return Reply{}, false
	}
	if len(b) < end {
		return Reply{}, true
	}
	id := uint16(number(b[5:head]))
	return Reply{Status: int(b[1]), ID: id, Value: string(b[head:end]), Used: end}, true
}

func (frames) Tell(c api.Command, a api.Answer, id int) string {
	if c.Kind == api.Wrong {
		id = 0
	}
	value := ""
	if a.Kind == api.Found {
		value = a.Values[0]
	}
	return frame(tells, status(a), 0, len(value), id) + value
}

func status(a api.Answer) int {
	switch a.Kind {
	case api.Failed:
		return StatusFailed
	case api.None:
		return StatusNo
	case api.Found:
		if !a.Found[0] {
			return StatusNo
		}
	}
	return StatusYes
}
