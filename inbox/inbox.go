// Package inbox keeps bytes that have come, until they are used.
package inbox

import "bytes"

// Inbox holds the bytes that wait. An empty one is ready.
type Inbox struct {
	held    []byte
	used    int  // how many of held are used up
	passing bool // what comes is passed over, up to a line end
	closed  bool
}

// Take: a piece comes.
func (in *Inbox) Take(piece string) {
	if in.closed {
		return
	}
	in.held = append(in.held, piece...)
	if in.passing {
		in.PassLine()
	}
}

// Waiting shows the bytes that wait; it is good until the next call.
func (in *Inbox) Waiting() []byte { return in.held[in.used:] }

// Len tells how many bytes wait.
func (in *Inbox) Len() int { return len(in.held) - in.used }

// Use takes the first n bytes away.
func (in *Inbox) Use(n int) {
	in.used += n
	// Moving the rest only when it is the smaller part keeps the whole work
	// in step with the bytes that came, however they are asked for.
	if in.used >= in.Len() {
		in.held = append([]byte(nil), in.Waiting()...)
		in.used = 0
	}
}

// PassLine takes all away up to the next line end, that too, even if it is
// still to come.
func (in *Inbox) PassLine() {
	end := bytes.IndexByte(in.Waiting(), '\n')
	in.passing = end < 0
	if in.passing {
		end = in.Len() - 1
	}
	in.Use(end + 1)
}

// Close takes all away, and whatever comes.
func (in *Inbox) Close() { *in = Inbox{closed: true} }
