package promises

import (
	"math/rand"
	"testing"

	"junction/api"
	"junction/junction"
)

func randomKey(random *rand.Rand) string {
	b := make([]byte, 1+random.Intn(api.MaxKey))
	for i := range b {
		b[i] = "abcdefghijklmnopqrstuvwxyz0123456789"[random.Intn(36)]
	}
	return string(b)
}

func randomCommand(random *rand.Rand, dialect int) api.Command {
	switch random.Intn(3) {
	case 0:
		value := make([]byte, random.Intn(api.MaxValue+1))
		random.Read(value)
		return set(randomKey(random), string(value))
	case 1:
		return del(randomKey(random))
	}
	c := get(randomKey(random))
	for dialect != api.Frames && len(c.Keys) < api.MaxKeys && random.Intn(2) == 0 {
		c.Keys = append(c.Keys, randomKey(random))
	}
	return c
}

// What Ask writes Feed reads: the same command, and nothing is left.
func TestFeedReadsWhatAskWrites(t *testing.T) {
	random := rand.New(rand.NewSource(3))
	for _, d := range dialects {
		all := reader(t, d)
		for range 3000 {
			c, id := randomCommand(random, d), random.Intn(65536)
			s, e := junction.Ask(d, c, id)
			if e != api.OK {
				t.Fatalf("Ask(%d, %+v, %d) = %d", d, c, id, e)
			}
			if d == api.Frames {
				c.ID = id
			}
			for _, r := range []*junction.Reader{all, reader(t, d)} {
				if l := r.Feed(s); !same(l, []api.Command{c}) || r.Rest() != 0 {
					t.Fatalf("dialect %d: %q is read as %+v, rest %d, want %+v", d, s, l, r.Rest(), c)
				}
			}
		}
	}
}
