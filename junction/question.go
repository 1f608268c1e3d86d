package junction

import "junction/api"

// question is a client's command, until it is told what it came to.
type question struct {
	command api.Command
	open    int // how many parts are not answered
}

// newQuestion: each key is a part; what is wrong has none.
func newQuestion(c api.Command) *question {
	return &question{command: c, open: len(c.Keys)}
}

// answered: all its parts are.
func (q *question) answered() bool { return q.open == 0 }

// answer tells what a question that is answered came to. As long as nothing
// comes from servers, that is one without parts: something wrong.
func (q *question) answer() api.Answer {
	return api.Answer{Kind: api.Failed, Word: q.command.Word}
}

// part is one key of a question, for the server that owns it.
type part struct {
	client   *client
	question *question
	key      int // which of the question's keys
}

// command is what the part asks for: that one key.
func (p part) command() api.Command {
	c := p.question.command
	return api.Command{Kind: c.Kind, Keys: []string{c.Keys[p.key]}, Value: c.Value}
}
