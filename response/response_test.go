package response

import (
	"math/big"
	"math/rand"
	"slices"
	"testing"

	"seismonet/api"
	"seismonet/nat"
)

func gain(num, den int) api.Stage {
	return api.Stage{Kind: api.StageGain, Num: [3]int{num}, Den: [3]int{den}}
}

func section(a, b, c, d, e, f int) api.Stage {
	return api.Stage{Kind: api.StageSection, Num: [3]int{a, b, c}, Den: [3]int{d, e, f}}
}

func filter(factor, shift int, taps ...int) api.Stage {
	return api.Stage{Kind: api.StageFilter, Taps: taps, Factor: factor, Shift: shift}
}

func chain(l ...api.Stage) api.Response {
	return api.Response{Stages: l}
}

func fraction(num, den int) api.Fraction {
	n, _ := nat.From(num)
	d, _ := nat.From(den)
	return api.Fraction{Num: n, Den: d}
}

func with(s api.Stage, f func(s *api.Stage)) api.Stage {
	f(&s)
	return s
}

const top = api.MaxTerm

func validStages() []api.Stage {
	return []api.Stage{
		gain(1, 1), gain(top, top), section(0, 0, 0, 1, 0, 0), section(top, -top, top, -top, top, -top), filter(1, 0, 1), filter(64, 40, top, -1),
		filter(2, 3, make([]int, 127)...), filter(1, 1, -5, 4),
	}
}

func TestStages(t *testing.T) {
	good := validStages()
	good[6].Taps = append(good[6].Taps, 1)
	for i, s := range good {
		if !ValidStage(s) || !Valid(chain(s)) {
			t.Error(i)
		}
		if n, e := Sum(s); s.Kind == api.StageFilter && e != api.OK || s.Kind != api.StageFilter && (n != 0 || e != api.ErrInvalid) {
			t.Error(i, n, e)
		}
	}
	if n, e := Sum(filter(1, 1, 5, -7, 3)); n != 1 || e != api.OK {
		t.Error(n, e)
	}
	for i, s := range []api.Stage{
		{}, {Kind: 3}, {Kind: -1}, gain(0, 1), gain(1, 0), gain(top+1, 1), gain(1, top+1), gain(-1, 1), gain(1, -1),
		with(gain(1, 1), func(s *api.Stage) { s.Num[1] = 1 }), with(gain(1, 1), func(s *api.Stage) { s.Num[2] = 1 }), with(gain(1, 1), func(s *api.Stage) { s.Den[1] = 1 }),
		with(gain(1, 1), func(s *api.Stage) { s.Den[2] = 1 }), with(gain(1, 1), func(s *api.Stage) { s.Taps = []int{1} }), with(gain(1, 1), func(s *api.Stage) { s.Factor = 1 }),
		with(gain(1, 1), func(s *api.Stage) { s.Shift = 1 }), section(1, 1, 1, 0, 1, 1), section(top+1, 1, 1, 1, 1, 1), section(1, 1, -top-1, 1, 1, 1), section(1, 1, 1, 1, 1, top+1),
		with(section(1, 1, 1, 1, 1, 1), func(s *api.Stage) { s.Taps = []int{1} }), with(section(1, 1, 1, 1, 1, 1), func(s *api.Stage) { s.Factor = 1 }), with(section(1, 1, 1, 1, 1, 1), func(s *api.Stage) { s.Shift = 1 }),
		filter(1, 0), filter(1, 0, make([]int, 129)...), filter(1, 0, append(make([]int, 128), 1)...), filter(1, 0, 1, -1), filter(1, 0, top+1), filter(1, 0, -top-1), filter(0, 0, 1), filter(65, 0, 1), filter(1, -1, 1), filter(1, 41, 1),
		with(filter(1, 0, 1), func(s *api.Stage) { s.Num[2] = 1 }), with(filter(1, 0, 1), func(s *api.Stage) { s.Den[0] = 1 }),
	} {
		if ValidStage(s) || Valid(chain(s)) {
			t.Error(i, s)
		}
		if n, e := Sum(s); n != 0 || e != api.ErrInvalid {
			t.Error(i, n, e)
		}
	}
}

func TestValid(t *testing.T) {
	eight := slices.Repeat([]api.Stage{gain(1, 1)}, 8)
	for i, c := range []struct {
		r    api.Response
		want bool
	}{
		{chain(), true}, {chain(eight...), true}, {chain(append(eight, gain(1, 1))...), false}, {chain(filter(8, 0, 1), gain(1, 1), filter(8, 0, 1)), true},
		{chain(filter(8, 0, 1), filter(9, 0, 1)), false}, {chain(gain(1, 1), gain(0, 1)), false},
	} {
		if Valid(c.r) != c.want {
			t.Error(i)
		}
		if _, e := Factor(c.r); (e == api.OK) != c.want {
			t.Error(i, e)
		}
		if c.want {
			continue
		}
		if g, e := Gain(c.r, -1, 0); len(g.Den) != 0 || e != api.ErrInvalid {
			t.Error(i, e)
		}
		if x, e := Join(c.r, chain()); x.Stages != nil || e != api.ErrInvalid {
			t.Error(i, e)
		}
		if x, e := Join(chain(), c.r); x.Stages != nil || e != api.ErrInvalid {
			t.Error(i, e)
		}
		if x, e := Input(c.r, api.Rate{Num: 1, Den: 1}); x != (api.Rate{}) || e != api.ErrInvalid {
			t.Error(i, e)
		}
		if x, e := Delay(c.r, api.Rate{Num: 1, Den: 1}); x != (api.Ratio{}) || e != api.ErrInvalid {
			t.Error(i, e)
		}
	}
}

// exact computes a squared gain with numbers of any size.
func exact(r api.Response, num, den int) (*big.Int, *big.Int) {
	n, d := big.NewInt(1), big.NewInt(1)
	polynomial := func(a [3]int) *big.Int {
		w, v := big.NewInt(int64(num)), big.NewInt(int64(den))
		term := func(c int, x, y *big.Int) *big.Int {
			return new(big.Int).Mul(big.NewInt(int64(c)), new(big.Int).Mul(x, y))
		}
		re := new(big.Int).Sub(term(a[0], v, v), term(a[2], w, w))
		im := term(a[1], w, v)
		return new(big.Int).Add(re.Mul(re, re), im.Mul(im, im))
	}
	for _, s := range r.Stages {
		x, y := big.NewInt(int64(s.Num[0])), big.NewInt(int64(s.Den[0]))
		switch s.Kind {
		case api.StageSection:
			n.Mul(n, polynomial(s.Num))
			d.Mul(d, polynomial(s.Den))
			continue
		case api.StageFilter:
			x.SetInt64(0)
			for _, tap := range s.Taps {
				x.Add(x, big.NewInt(int64(tap)))
			}
			y.Lsh(big.NewInt(1), uint(s.Shift))
		}
		n.Mul(n, x.Mul(x, x))
		d.Mul(d, y.Mul(y, y))
	}
	return n, d
}

func TestGain(t *testing.T) {
	if g, e := Gain(chain(section(1, 0, 0, 1, 1, 0)), 1, 1); !slices.Equal(g.Num, api.Nat{1}) || !slices.Equal(g.Den, api.Nat{2}) || e != api.OK {
		t.Error(g, e)
	}
	if g, e := Gain(chain(gain(2, 4)), 0, 1); !slices.Equal(g.Num, api.Nat{4}) || !slices.Equal(g.Den, api.Nat{16}) || e != api.OK {
		t.Error(g, e)
	}
	if g, e := Gain(chain(section(0, 1, 0, 1, 0, 0)), 0, 1); len(g.Num) != 0 || !slices.Equal(g.Den, api.Nat{1}) || e != api.OK {
		t.Error(g, e)
	}
	if g, e := Gain(chain(section(1, 0, 0, 1, 0, 1)), 1, 1); len(g.Num) != 0 || len(g.Den) != 0 || e != api.ErrConflict {
		t.Error(g, e)
	}
	for _, c := range [][2]int{{-1, 1}, {api.MaxAngle + 1, 1}, {0, 0}, {0, -1}, {0, api.MaxAngle + 1}} {
		if g, e := Gain(chain(section(1, 0, 0, 1, 0, 1)), c[0], c[1]); len(g.Den) != 0 || e != api.ErrRange {
			t.Error(c, e)
		}
	}
	r := rand.New(rand.NewSource(13))
	kinds := append(validStages()[:6], section(3, 4, 5, 6, 7, 8), section(top, top, top, top, top, top), filter(1, 2, 5, -7, 9))
	for range 500 {
		var stages []api.Stage
		for range r.Intn(9) {
			s := kinds[r.Intn(len(kinds))]
			if s.Factor > 1 {
				s.Factor = 1
			}
			stages = append(stages, s)
		}
		num, den := r.Intn(api.MaxAngle+1), 1+r.Intn(api.MaxAngle)
		g, e := Gain(chain(stages...), num, den)
		n, d := exact(chain(stages...), num, den)
		x, _ := nat.Text(g.Num)
		y, _ := nat.Text(g.Den)
		if e != api.OK || x != n.String() || y != d.String() {
			t.Fatal(stages, num, den, x, n, y, d, e)
		}
	}
}

func TestJoinAndFactor(t *testing.T) {
	a, b := chain(gain(2, 1), filter(4, 0, 1, 2)), chain(filter(16, 1, 3))
	j, e := Join(a, b)
	if !Same(j, chain(gain(2, 1), filter(4, 0, 1, 2), filter(16, 1, 3))) || e != api.OK {
		t.Error(j, e)
	}
	if n, e := Factor(j); n != 64 || e != api.OK {
		t.Error(n, e)
	}
	if n, e := Factor(chain(gain(1, 1))); n != 1 || e != api.OK {
		t.Error(n, e)
	}
	j.Stages[1].Taps[0] = 99
	if a.Stages[1].Taps[0] != 1 {
		t.Error("memory is shared")
	}
	if j, e := Join(a, chain(filter(17, 1, 3))); j.Stages != nil || e != api.ErrLimit {
		t.Error(j, e)
	}
	if _, e := Join(chain(slices.Repeat([]api.Stage{gain(1, 1)}, 8)...), chain(gain(1, 1))); e != api.ErrLimit {
		t.Error(e)
	}
	for i, s := range []api.Stage{gain(3, 1), gain(2, 2), section(2, 0, 0, 1, 0, 0)} {
		if Same(chain(gain(2, 1)), chain(s)) || !Same(chain(s), chain(s)) {
			t.Error(i)
		}
	}
	if Same(chain(filter(1, 0, 1)), chain(filter(2, 0, 1))) || Same(chain(filter(1, 0, 1)), chain(filter(1, 1, 1))) || Same(chain(filter(1, 0, 1)), chain(filter(1, 0, 2))) || Same(chain(), chain(gain(1, 1))) {
		t.Error("Same")
	}
}

func TestInput(t *testing.T) {
	for i, c := range []struct {
		r         api.Response
		out, want api.Rate
		e         api.Errno
	}{
		{chain(), api.Rate{Num: 7, Den: 3}, api.Rate{Num: 7, Den: 3}, api.OK}, {chain(filter(4, 0, 1), gain(1, 1), filter(3, 0, 1)), api.Rate{Num: 5, Den: 6}, api.Rate{Num: 10, Den: 1}, api.OK},
		{chain(filter(64, 0, 1)), api.Rate{Num: 65, Den: 1}, api.Rate{}, api.ErrLimit}, {chain(filter(64, 0, 1)), api.Rate{Num: 64, Den: 1}, api.Rate{Num: 4096, Den: 1}, api.OK},
		{chain(), api.Rate{Num: 2, Den: 2}, api.Rate{}, api.ErrInvalid},
	} {
		if got, e := Input(c.r, c.out); got != c.want || e != c.e {
			t.Error(i, got, e)
		}
	}
}

func TestDelay(t *testing.T) {
	one := api.Rate{Num: 1, Den: 1}
	long := make([]int, 128)
	long[0], long[127] = 1, 1
	for i, c := range []struct {
		r    api.Response
		out  api.Rate
		want api.Ratio
		e    api.Errno
	}{
		{chain(filter(1, 2, 1, 2, 1)), api.Rate{Num: 100, Den: 1}, api.Ratio{Num: 1, Den: 100}, api.OK},
		{chain(filter(2, 2, 1, 2, 1)), api.Rate{Num: 50, Den: 1}, api.Ratio{Num: 1, Den: 100}, api.OK},
		{chain(), one, api.Ratio{Num: 0, Den: 1}, api.OK}, {chain(filter(5, 0, 1)), one, api.Ratio{Num: 0, Den: 1}, api.OK},
		{chain(filter(2, 0, 1, 1), gain(1, 1), filter(3, 0, 1, 1, 1)), one, api.Ratio{Num: 5, Den: 12}, api.OK},
		{chain(filter(2, 0, 1, 2), filter(64, 0, 1)), one, api.Ratio{}, api.ErrInvalid},
		{chain(filter(2, 0, 1, 2), filter(32, 0, 1)), api.Rate{Num: 4096, Den: 1}, api.Ratio{}, api.ErrConflict},
		{chain(filter(32, 0, 1)), api.Rate{Num: 4096, Den: 1}, api.Ratio{}, api.ErrLimit},
		{chain(filter(2, 0, 1, 2)), api.Rate{}, api.Ratio{}, api.ErrInvalid},
		{chain(filter(1, 0, long...)), api.Rate{Num: 1, Den: 4096}, api.Ratio{Num: 127 * 2048, Den: 1}, api.OK},
	} {
		if got, e := Delay(c.r, c.out); got != c.want || e != c.e {
			t.Error(i, got, e)
		}
	}
}

func TestDelaysAddUp(t *testing.T) {
	a, b := chain(filter(2, 0, 1, 1, 1, 1)), chain(filter(5, 0, 3, 1, 3), filter(1, 0, 2, 2))
	out := api.Rate{Num: 20, Den: 3}
	between, _ := Input(b, out)
	j, _ := Join(a, b)
	x, _ := Delay(a, between)
	y, _ := Delay(b, out)
	z, e := Delay(j, out)
	if e != api.OK || x.Num*y.Den*z.Den+y.Num*x.Den*z.Den != z.Num*x.Den*y.Den {
		t.Error(x, y, z, e)
	}
}
