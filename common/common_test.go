package common

import "testing"

func TestWithin(t *testing.T) {
	for _, c := range []struct {
		n, low, high int
		want         bool
	}{{1, 1, 3, true}, {3, 1, 3, true}, {2, 1, 3, true}, {0, 1, 3, false}, {4, 1, 3, false}, {2, 3, 1, false}, {-1 << 63, -1 << 63, 1<<63 - 1, true}} {
		if Within(c.n, c.low, c.high) != c.want {
			t.Error(c)
		}
	}
}

func TestDivisor(t *testing.T) {
	for _, c := range [][3]int{{12, 18, 6}, {18, 12, 6}, {7, 3, 1}, {0, 5, 5}, {5, 0, 5}, {4096, 4096, 4096}} {
		if got := Divisor(c[0], c[1]); got != c[2] {
			t.Error(c, got)
		}
	}
}

func TestIsPerson(t *testing.T) {
	for by, want := range map[string]bool{"a": true, "z": true, "eve": true, "abcdefghijklmnop": true, "": false, "abcdefghijklmnopq": false, "Eve": false, "e e": false, "e1": false, "\xff": false, "{": false, "`": false} {
		if IsPerson(by) != want {
			t.Error(by)
		}
	}
}
