package bits

import (
	"testing"

	"seismonet/api"
)

const (
	least    = -1 << 63
	greatest = 1<<63 - 1
)

func TestPutAndGet(t *testing.T) {
	if s, e := Put("", 258, 2); s != "\x01\x02" || e != api.OK {
		t.Error(s, e)
	}
	for width := 1; width <= 7; width++ {
		top := 1<<(8*width) - 1
		for _, n := range []int{0, 1, 127, 128, 255, top / 3, top - 1, top} {
			s, e := Put("ab", n, width)
			if e != api.OK || len(s) != 2+width || s[:2] != "ab" {
				t.Error(n, width, s, e)
			}
			if back, e := Get(s+"c", 2, width); back != n || e != api.OK {
				t.Error(n, width, back, e)
			}
			if back, e := Get(s, 3, width); back != 0 || e != api.ErrTruncated {
				t.Error(n, width, back, e)
			}
		}
		whole, _ := Put("", top, width)
		if back, e := Get(whole, 0, width); back != top || e != api.OK {
			t.Error(width, back, e)
		}
		for _, n := range []int{-1, top + 1, least, greatest} {
			if s, e := Put("ab", n, width); s != "" || e != api.ErrRange {
				t.Error(n, width, s, e)
			}
		}
	}
	for _, width := range []int{0, -1, 8, least, greatest} {
		if s, e := Put("ab", 0, width); s != "" || e != api.ErrRange {
			t.Error(width, s, e)
		}
		if n, e := Get("", 0, width); n != 0 || e != api.ErrRange {
			t.Error(width, n, e)
		}
	}
	for _, at := range []int{-1, least} {
		if n, e := Get("", at, 1); n != 0 || e != api.ErrRange {
			t.Error(at, n, e)
		}
	}
	if n, e := Get("abcdefghij", greatest, 7); n != 0 || e != api.ErrTruncated {
		t.Error(n, e)
	}
}

func TestSigns(t *testing.T) {
	if n, e := Wrap(-1, 8); n != 255 || e != api.OK {
		t.Error(n, e)
	}
	for bits := 1; bits <= 56; bits++ {
		half := 1 << (bits - 1)
		for _, n := range []int{-half, -half / 2, -1, 0, half / 2, half - 1} {
			w, e := Wrap(n, bits)
			want := n
			if n < 0 {
				want += 2 * half
			}
			if !Fits(n, bits) || w != want || e != api.OK {
				t.Error(n, bits, w, e)
			}
			if back, e := Sign(w, bits); back != n || e != api.OK {
				t.Error(n, bits, w, back, e)
			}
		}
		for _, n := range []int{-half - 1, half, least, greatest} {
			if w, e := Wrap(n, bits); Fits(n, bits) || w != 0 || e != api.ErrRange {
				t.Error(n, bits, w, e)
			}
		}
		for _, n := range []int{-1, 2 * half, least, greatest} {
			if w, e := Sign(n, bits); w != 0 || e != api.ErrRange {
				t.Error(n, bits, w, e)
			}
		}
	}
	for _, bits := range []int{0, -1, 57, 64, least, greatest} {
		if Fits(0, bits) {
			t.Error(bits)
		}
		if _, e := Wrap(0, bits); e != api.ErrRange {
			t.Error(bits, e)
		}
		if _, e := Sign(0, bits); e != api.ErrRange {
			t.Error(bits, e)
		}
	}
}

func TestPairs(t *testing.T) {
	if w, e := SetPair(0, 15, 3); w != 3 || e != api.OK {
		t.Error(w, e)
	}
	word := 0
	for i := range 16 {
		word, _ = SetPair(word, i, (i+1)%4)
	}
	for i := range 16 {
		if got, e := Pair(word, i); got != (i+1)%4 || e != api.OK {
			t.Error(i, got, e)
		}
		for value := range 4 {
			w, _ := SetPair(maxWord, i, value)
			for k := range 16 {
				want := 3
				if k == i {
					want = value
				}
				if got, _ := Pair(w, k); got != want {
					t.Error(i, value, k, got)
				}
			}
		}
	}
	for _, c := range [][3]int{{-1, 0, 0}, {1 << 32, 0, 0}, {0, -1, 0}, {0, 16, 0}, {0, 0, 4}, {0, 0, -1}, {least, least, least}, {greatest, greatest, greatest}} {
		if w, e := SetPair(c[0], c[1], c[2]); w != 0 || e != api.ErrRange {
			t.Error(c, w, e)
		}
		if w, e := Pair(c[0], c[1]); c[2] == 0 && (w != 0 || e != api.ErrRange) {
			t.Error(c, w, e)
		}
	}
}
