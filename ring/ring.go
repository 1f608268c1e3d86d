// Package ring tells which server has a key.
package ring

import "strconv"

const (
	begin uint32 = 2166136261
	prime uint32 = 16777619
)

// Number is the FNV-1a of a text and a byte 0 behind it.
func Number(text string) uint32 {
	h := begin
	for i := range len(text) {
		h = (h ^ uint32(text[i])) * prime
	}
	return h * prime // the byte 0 leaves the exclusive or as it is
}

// Owner is the server whose point is the first on the ring from the key's
// number on; servers and points are at least 1.
func Owner(servers, points int, key string) int {
	from := Number(key)
	owner, least := 0, away(from, 0, 0)
	for s := range servers {
		for p := range points {
			// Only a point that is nearer counts: of two servers with one
			// point the lower one keeps it.
			if d := away(from, s, p); d < least {
				owner, least = s, d
			}
		}
	}
	return owner
}

// away tells how far a server's point lies ahead of a number. The difference
// wraps round, as the ring does: points below the number come last.
func away(from uint32, server, point int) uint32 {
	return Number(strconv.Itoa(server)+":"+strconv.Itoa(point)) - from
}
