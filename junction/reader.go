package junction

import (
	"iter"
	"slices"

	"junction/api"
	"junction/inbox"
	"junction/speech"
)

// Reader reads commands of a dialect.
type Reader struct {
	dialect speech.Dialect
	in      inbox.Inbox
}

// Decoder makes a reader (P2).
func Decoder(dialect int) (*Reader, api.Errno) {
	d, ok := speech.Of(dialect)
	if !ok {
		return nil, api.ErrArg
	}
	return &Reader{dialect: d}, api.OK
}

// Feed takes a piece, and tells the commands that are whole (P2).
func (r *Reader) Feed(piece string) []api.Command { return slices.Collect(r.Next(piece)) }

// Next takes a piece, and gives the commands one by one (P2).
func (r *Reader) Next(piece string) iter.Seq[api.Command] {
	r.in.Take(piece)
	return func(yield func(api.Command) bool) {
		for {
			c, ok := r.read()
			if !ok || !yield(c) {
				return
			}
		}
	}
}

// Rest tells how many bytes wait (P2).
func (r *Reader) Rest() int { return r.in.Len() }

// read takes the next command, if one is whole.
func (r *Reader) read() (api.Command, bool) {
	step := r.dialect.Read(r.in.Waiting())
	if step.Used == 0 {
		return api.Command{}, false
	}
	r.in.Use(step.Used)
	// What is passed over goes at once, so that Rest never counts it.
	if step.Skip {
		r.in.PassLine()
	}
	if step.Command.Fatal {
		r.in.Close()
	}
	return step.Command, true
}
