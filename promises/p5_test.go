package promises

import (
	"math"
	"strconv"
	"testing"

	"junction/api"
	"junction/junction"
)

// numberOf is the FNV-1a of a text and a byte 0.
func numberOf(text string) uint64 {
	h := uint64(2166136261)
	for _, b := range []byte(text + "\x00") {
		h = (h ^ uint64(b)) * 16777619 % (1 << 32)
	}
	return h
}

// ownerOf goes through all points: the least not below the key's number, or
// else the least of all.
func ownerOf(servers, points int, key string) int {
	above, aboveAt, least, leastAt := -1, uint64(0), -1, uint64(0)
	for s := range servers {
		for p := range points {
			at := numberOf(strconv.Itoa(s) + ":" + strconv.Itoa(p))
			if at >= numberOf(key) && (above < 0 || at < aboveAt) {
				above, aboveAt = s, at
			}
			if least < 0 || at < leastAt {
				least, leastAt = s, at
			}
		}
	}
	if above >= 0 {
		return above
	}
	return least
}

// Keys whose numbers lie on points, next to them, and at the ring's seam.
var ringKeys = []struct {
	key   string
	point string
	more  int64
}{
	{"838ghv", "2:0", 0}, {"838ghw", "2:1", 0}, {"838ghp", "2:6", 0}, {"dqgyut", "2:8", 0}, {"ybk75k", "3:0", 0}, {"vom43a", "3:1", 0}, {"vom43c", "3:3", 0}, {"ya5qf8", "3:12", 0}, {"ya5qf9", "3:13", 0},
	{"omefpd", "2:0", 1}, {"iftek1", "0:1", 1}, {"iftek6", "0:8", 1}, {"6mmw36", "1:0", 1}, {"6mmw31", "1:1", 1}, {"6mmw34", "1:2", 1},
	{"buqu0r", "2:0", -1}, {"s6c2ha", "0:8", -1}, {"j3rm1c", "1:0", -1}, {"hn43bo", "2:14", -1}, {"ex80m7", "3:1", -1},
}

func TestOwnerOnTheRing(t *testing.T) {
	if numberOf("a") != 723832900 || numberOf("0:0") != 283805271 {
		t.Fatal("the test's own numbers are wrong")
	}
	keys := []string{"a", "b", "c", "z", "0", "9", "zz", "12345678", "abcdefgh", "get", "zsfsn6"}
	for _, k := range ringKeys {
		if int64(numberOf(k.key)) != int64(numberOf(k.point))+k.more {
			t.Fatalf("%s does not lie by %s", k.key, k.point)
		}
		keys = append(keys, k.key)
	}
	for n := range 500 {
		keys = append(keys, "k"+strconv.Itoa(n))
	}
	for _, key := range keys {
		for servers := 1; servers <= api.MaxServers; servers++ {
			for points := 1; points <= api.MaxPoints; points++ {
				want := ownerOf(servers, points, key)
				if n, e := junction.Owner(servers, points, key); n != want || e != api.OK {
					t.Fatalf("Owner(%d, %d, %q) = %d, %d, want %d", servers, points, key, n, e, want)
				}
			}
		}
	}
}

// A few owners written out: on a point, one ahead of it, and behind the last.
func TestOwnerWrittenOut(t *testing.T) {
	for _, c := range []struct {
		servers, points int
		key             string
		want            int
	}{
		{4, 16, "838ghv", 2}, {4, 16, "buqu0r", 2}, {4, 16, "omefpd", 0}, // 2:0, then 0:11
		{4, 16, "vom43c", 3}, {4, 16, "ex80m5", 3}, // 3:3
		{4, 16, "6mmw31", 2}, {4, 16, "zsfsn6", 2}, // behind 1:1, the last: 2:14, the first
		{2, 1, "zsfsn6", 0}, {4, 1, "a", 2}, {4, 16, "a", 1}, {1, 16, "a", 0}, {1, 1, "a", 0},
	} {
		if n, e := junction.Owner(c.servers, c.points, c.key); n != c.want || e != api.OK {
			t.Errorf("Owner(%d, %d, %q) = %d, %d, want %d", c.servers, c.points, c.key, n, e, c.want)
		}
	}
}

func TestOwnerRefuses(t *testing.T) {
	for _, n := range []int{0, -1, -4, 17, 257, 1 << 32, math.MaxInt, math.MinInt} {
		ownerRefused(t, n, 1, "a")
		ownerRefused(t, 1, n, "a")
		ownerRefused(t, n, n, "A")
	}
	ownerRefused(t, 5, 1, "a")
	ownerRefused(t, 5, 16, "a")
	for _, key := range []string{"", "A", "abcdefghi", "a b", "a\x00", "\n", "é", "a-", "{", "`", "/", ":"} {
		ownerRefused(t, 1, 1, key)
		ownerRefused(t, 4, 16, key)
	}
}

func ownerRefused(t *testing.T, servers, points int, key string) {
	t.Helper()
	if n, e := junction.Owner(servers, points, key); n != 0 || e != api.ErrArg {
		t.Errorf("Owner(%d, %d, %q) = %d, %d, want 0, ErrArg", servers, points, key, n, e)
	}
}
