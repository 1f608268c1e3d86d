// Package speech reads and writes the three dialects.
package speech

import "junction/api"

// Dialect is one way of asking.
type Dialect interface {
	// Read tells what the first of these bytes come to.
	Read(b []byte) Step
	// CanSay: a command that may be can be said here, under this id.
	CanSay(c api.Command, id int) bool
	// Ask writes a command that can be said.
	Ask(c api.Command, id int) string
	// Tell writes an answer that may be, to a command that can be said.
	Tell(c api.Command, a api.Answer, id int) string
}

// Step is one command, or something wrong, that was read.
type Step struct {
	Command api.Command
	Used    int  // its bytes; 0: nothing is whole yet
	Skip    bool // behind it all up to the next line end is passed over
}

// Of tells the dialect of a number, and whether there is one.
func Of(number int) (Dialect, bool) {
	switch number {
	case api.Lines:
		return lines{}, true
	case api.Frames:
		return frames{}, true
	case api.Lists:
		return lists{}, true
	}
	return nil, false
}

func wrong(word string, used int) Step {
	return Step{Command: api.Command{Kind: api.Wrong, Word: word}, Used: used}
}

func passing(s Step) Step {
	s.Skip = true
	return s
}

func fatal(s Step) Step {
	s.Command.Fatal = true
	return s
}
