package junction

import (
	"junction/api"
	"junction/speech"
)

// question is a client's command, until it is told what it came to.
type question struct {
	command api.Command
	open    int      // how many parts are neither answered nor have failed
	failed  bool     // a part has failed
	refused bool     // a part was refused
	yes     []bool   // of each part: it was found, done, gone
	values  []string // of each part: what was found
}

// newQuestion: each key is a part; what is wrong has none.
func newQuestion(c api.Command) *question {
	n := len(c.Keys)
	return &question{command: c, open: n, yes: make([]bool, n), values: make([]string, n)}
}

// answered: all its parts are, or have failed.
func (q *question) answered() bool { return q.open == 0 }

// take: the part of this key is answered.
func (q *question) take(key int, r speech.Reply) {
	q.open--
	q.refused = q.refused || r.Status == speech.StatusFailed
	q.yes[key] = r.Status == speech.StatusYes
	q.values[key] = r.Value
}

// fail: a part has failed.
func (q *question) fail() {
	q.open--
	q.failed = true
}

// answer tells what a question that is answered came to.
func (q *question) answer() api.Answer {
	switch kind := q.command.Kind; {
	case kind == api.Wrong:
		return api.Answer{Kind: api.Failed, Word: q.command.Word}
	case q.failed:
		return api.Answer{Kind: api.Failed, Word: api.Broken}
	case q.refused:
		return api.Answer{Kind: api.Failed, Word: api.Refused}
	case kind == api.Get:
		return api.Answer{Kind: api.Found, Found: q.yes, Values: q.values}
	case kind == api.Set:
		return api.Answer{Kind: api.Done}
	case q.yes[0]:
		return api.Answer{Kind: api.Gone}
	}
	return api.Answer{Kind: api.None}
}

// part is one key of a question, for the server that owns it.
type part struct {
	client   *client
	question *question
	key      int // which of the question's keys
}

// command is what the part asks for: that one key.
func (p part) command() api.Command {
	c := p.question.command
	return api.Command{Kind: c.Kind, Keys: []string{c.Keys[p.key]}, Value: c.Value}
}

// mayBe: only what was found has a value.
func (p part) mayBe(r speech.Reply) bool {
	found := p.question.command.Kind == api.Get && r.Status == speech.StatusYes
	return found || r.Value == ""
}
