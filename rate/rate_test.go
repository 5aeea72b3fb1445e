package rate

import (
	"math/big"
	"testing"

	"seismonet/api"
)

var (
	rates  = []api.Rate{{Num: 1, Den: 1}, {Num: 3, Den: 1}, {Num: 100, Den: 1}, {Num: 4096, Den: 1}, {Num: 1, Den: 4096}, {Num: 4095, Den: 4096}, {Num: 7, Den: 3}, {Num: 4096, Den: 4095}}
	starts = []int{0, 1, 5, 999999, 86400 * api.Second, api.MaxTime}
	bad    = []api.Rate{{}, {Num: 2, Den: 2}, {Num: 4097, Den: 1}, {Num: 1, Den: 4097}, {Num: -1, Den: 1}, {Num: 1, Den: -1}, {Num: 0, Den: 1}, {Num: 6, Den: 4}}
)

// exact returns start + k Den 10^6 / Num, rounded down.
func exact(start int, r api.Rate, k int) int {
	n := big.NewInt(int64(k))
	n.Mul(n, big.NewInt(int64(r.Den)*api.Second))
	n.Div(n, big.NewInt(int64(r.Num)))
	return start + int(n.Int64())
}

func TestValidAndNew(t *testing.T) {
	for _, r := range rates {
		if !Valid(r) {
			t.Error(r)
		}
	}
	for _, r := range bad {
		if Valid(r) {
			t.Error(r)
		}
	}
	if r, e := New(4096, 64); r != (api.Rate{Num: 64, Den: 1}) || e != api.OK {
		t.Error(r, e)
	}
	if r, e := New(6, 4); r != (api.Rate{Num: 3, Den: 2}) || e != api.OK {
		t.Error(r, e)
	}
	for _, c := range [][2]int{{0, 1}, {1, 0}, {4097, 1}, {1, 4097}, {-1, -1}, {-1 << 63, 1}} {
		if r, e := New(c[0], c[1]); r != (api.Rate{}) || e != api.ErrRange {
			t.Error(c, r, e)
		}
	}
}

func TestTime(t *testing.T) {
	for _, r := range rates {
		for _, start := range starts {
			for _, k := range []int{0, 1, 2, 3, 4, 1000, 4095, api.MaxIndex - 1, api.MaxIndex} {
				if got, e := Time(start, r, k); got != exact(start, r, k) || e != api.OK {
					t.Error(start, r, k, got, e)
				}
			}
		}
	}
	for k, want := range []int{0, 333333, 666666, 1000000} {
		if got, _ := Time(0, rates[1], k); got != want {
			t.Error(k, got)
		}
	}
}

func TestIndexNextNearest(t *testing.T) {
	for _, r := range rates {
		for _, start := range starts {
			for _, k := range []int{0, 1, 2, 3, 1000, 4095, api.MaxIndex - 1, api.MaxIndex} {
				at := exact(start, r, k)
				for _, off := range []int{-1000000, -200, -2, -1, 0, 1, 2, 61, 166667, 500000} {
					if n := at + off; n >= 0 && n <= 2*api.MaxTime {
						checkPlace(t, start, r, n)
					}
				}
			}
		}
	}
	if k, off, e := Nearest(0, rates[1], 500000); k != 2 || off != -166666 || e != api.OK {
		t.Error(k, off, e)
	}
	if k, off, _ := Nearest(0, rates[0], 500000); k != 0 || off != 500000 {
		t.Error("of two equally close samples the lesser one counts", k, off)
	}
	if k, e := Index(0, rates[0], 2*api.MaxTime); k != api.MaxIndex || e != api.OK {
		t.Error(k, e)
	}
	if k, e := Next(0, rates[0], 2*api.MaxTime); k != 0 || e != api.ErrNotFound {
		t.Error(k, e)
	}
}

func checkPlace(t *testing.T, start int, r api.Rate, at int) {
	t.Helper()
	k, e := Index(start, r, at)
	if e != api.OK || k < -1 || k > api.MaxIndex || k >= 0 && exact(start, r, k) > at || k < api.MaxIndex && exact(start, r, k+1) <= at {
		t.Fatal("Index", start, r, at, k, e)
	}
	n, e := Next(start, r, at)
	if end := exact(start, r, api.MaxIndex); end < at {
		if n != 0 || e != api.ErrNotFound {
			t.Fatal("Next", start, r, at, n, e)
		}
	} else if e != api.OK || exact(start, r, n) < at || n > 0 && exact(start, r, n-1) >= at {
		t.Fatal("Next", start, r, at, n, e)
	}
	m, off, e := Nearest(start, r, at)
	if e != api.OK || off != at-exact(start, r, m) {
		t.Fatal("Nearest", start, r, at, m, off, e)
	}
	if m > 0 && at-exact(start, r, m-1) <= max(off, -off) || m < api.MaxIndex && exact(start, r, m+1)-at < max(off, -off) {
		t.Fatal("Nearest", start, r, at, m, off)
	}
}

func TestPlaceErrors(t *testing.T) {
	for _, c := range []struct {
		start int
		r     api.Rate
		at    int
		want  api.Errno
	}{
		{-1, api.Rate{}, -1, api.ErrInvalid}, {-1, rates[0], 0, api.ErrRange}, {api.MaxTime + 1, rates[0], 0, api.ErrRange},
		{0, rates[0], -1, api.ErrRange}, {0, rates[0], 2*api.MaxTime + 1, api.ErrRange},
	} {
		if k, e := Index(c.start, c.r, c.at); k != 0 || e != c.want {
			t.Error(c, k, e)
		}
		if k, e := Next(c.start, c.r, c.at); k != 0 || e != c.want {
			t.Error(c, k, e)
		}
		if k, off, e := Nearest(c.start, c.r, c.at); k != 0 || off != 0 || e != c.want {
			t.Error(c, k, off, e)
		}
	}
	if _, e := Time(-1, api.Rate{}, 0); e != api.ErrInvalid {
		t.Error(e)
	}
	for _, c := range [][2]int{{-1, 0}, {api.MaxTime + 1, 0}, {0, -1}, {0, api.MaxIndex + 1}} {
		if at, e := Time(c[0], rates[0], c[1]); at != 0 || e != api.ErrRange {
			t.Error(c, at, e)
		}
	}
	if k, e := Index(5, rates[0], 4); k != -1 || e != api.OK {
		t.Error(k, e)
	}
	if k, off, e := Nearest(5, rates[0], 3); k != 0 || off != -2 || e != api.OK {
		t.Error(k, off, e)
	}
}

func TestSlower(t *testing.T) {
	for _, c := range []struct {
		r      api.Rate
		factor int
		want   api.Rate
		e      api.Errno
	}{
		{api.Rate{Num: 100, Den: 1}, 4, api.Rate{Num: 25, Den: 1}, api.OK},
		{api.Rate{Num: 3, Den: 2}, 5, api.Rate{Num: 3, Den: 10}, api.OK},
		{api.Rate{Num: 64, Den: 4095}, 64, api.Rate{Num: 1, Den: 4095}, api.OK},
		{api.Rate{Num: 1, Den: 4096}, 2, api.Rate{}, api.ErrLimit},
		{api.Rate{Num: 1, Den: 1}, 0, api.Rate{}, api.ErrRange},
		{api.Rate{Num: 1, Den: 1}, 65, api.Rate{}, api.ErrRange},
		{api.Rate{Num: 2, Den: 2}, 0, api.Rate{}, api.ErrInvalid},
	} {
		if got, e := Slower(c.r, c.factor); got != c.want || e != c.e {
			t.Error(c, got, e)
		}
	}
	for _, factor := range []int{1, 2, 7, 64} {
		r := api.Rate{Num: 7, Den: 3}
		slow, _ := Slower(r, factor)
		for k := range 100 {
			if exact(5, slow, k) != exact(5, r, k*factor) {
				t.Error(factor, k)
			}
		}
	}
}

func TestSamples(t *testing.T) {
	for _, r := range rates {
		for _, micros := range []int{0, 1, 2, 333333, 333334, 1000000, 1000001, 4096000000} {
			want := 0
			for exact(0, r, want) < micros {
				want++
			}
			if got, e := Samples(r, micros); got != want || e != api.OK {
				t.Error(r, micros, got, want, e)
			}
		}
	}
	if n, e := Samples(rates[0], api.MaxIndex*api.Second); n != api.MaxIndex || e != api.OK {
		t.Error(n, e)
	}
	if n, e := Samples(rates[0], api.MaxIndex*api.Second+1); n != 0 || e != api.ErrLimit {
		t.Error(n, e)
	}
	if n, e := Samples(rates[3], api.MaxTime); n != 0 || e != api.ErrLimit {
		t.Error(n, e)
	}
	if _, e := Samples(api.Rate{}, -1); e != api.ErrInvalid {
		t.Error(e)
	}
	for _, micros := range []int{-1, api.MaxTime + 1} {
		if _, e := Samples(rates[0], micros); e != api.ErrRange {
			t.Error(micros, e)
		}
	}
}

func TestNumber(t *testing.T) {
	for _, r := range rates {
		for _, at := range []int{0, 1, 166666, 166667, 499999, 500000, 500001, api.MaxTime - 1, 2 * api.MaxTime} {
			n := big.NewInt(int64(at))
			n.Mul(n, big.NewInt(int64(2*r.Num)))
			c := int64(r.Den) * api.Second
			n.Add(n, big.NewInt(c))
			n.Div(n, big.NewInt(2*c))
			if got, e := Number(r, at); got != int(n.Int64()) || e != api.OK {
				t.Error(r, at, got, n, e)
			}
		}
	}
	if _, e := Number(api.Rate{}, -1); e != api.ErrInvalid {
		t.Error(e)
	}
	for _, at := range []int{-1, 2*api.MaxTime + 1} {
		if _, e := Number(rates[0], at); e != api.ErrRange {
			t.Error(at, e)
		}
	}
}
