// Package check tells whether keys, values, commands and answers are such as may be.
package check

import "junction/api"

// maxWord stands here because package api does not name it.
const maxWord = 8

// Key: 1 to MaxKey letters a to z or digits.
func Key(s string) bool {
	return within(len(s), 1, api.MaxKey) && each(s, func(b byte) bool { return letter(b) || digit(b) })
}

// Value: 0 to MaxValue bytes, whichever.
func Value(s string) bool { return len(s) <= api.MaxValue }

// Word: 1 to 8 letters a to z.
func Word(s string) bool { return within(len(s), 1, maxWord) && each(s, letter) }

// Command: one that can be asked. It looks at Kind, Keys and Value alone.
func Command(c api.Command) bool {
	switch c.Kind {
	case api.Get:
		return keys(c.Keys, api.MaxKeys) && c.Value == ""
	case api.Set:
		return keys(c.Keys, 1) && Value(c.Value)
	case api.Delete:
		return keys(c.Keys, 1) && c.Value == ""
	}
	return false
}

// Answer: one that c may come to. Of a wrong command it looks at the Kind
// alone, of an answer at what its kind has.
func Answer(c api.Command, a api.Answer) bool {
	if c.Kind != api.Wrong && !Command(c) {
		return false
	}
	switch a.Kind {
	case api.Found:
		return c.Kind == api.Get && finds(a, len(c.Keys))
	case api.Done:
		return c.Kind == api.Set
	case api.Gone, api.None:
		return c.Kind == api.Delete
	case api.Failed:
		return Word(a.Word)
	}
	return false
}

// Ring: there may be so many servers, with so many points each.
func Ring(servers, points int) bool {
	return within(servers, 1, api.MaxServers) && within(points, 1, api.MaxPoints)
}

// Config: there may be such a junction.
func Config(c api.Config) bool {
	return Ring(c.Servers, c.Points) && within(c.Window, 1, api.MaxWindow)
}

// finds: a tells of n keys whether each was found, and values of those alone.
func finds(a api.Answer, n int) bool {
	if len(a.Found) != n || len(a.Values) != n {
		return false
	}
	for i, found := range a.Found {
		if !Value(a.Values[i]) || !found && a.Values[i] != "" {
			return false
		}
	}
	return true
}

func keys(list []string, most int) bool {
	if !within(len(list), 1, most) {
		return false
	}
	for _, k := range list {
		if !Key(k) {
			return false
		}
	}
	return true
}

func within(n, least, most int) bool { return n >= least && n <= most }

func each(s string, may func(byte) bool) bool {
	for i := range len(s) {
		if !may(s[i]) {
			return false
		}
	}
	return true
}

func letter(b byte) bool { return b >= 'a' && b <= 'z' }

func digit(b byte) bool { return b >= '0' && b <= '9' }
