package magnitude

import (
	"math"
	"math/rand"
	"slices"
	"testing"

	"seismonet/api"
	"seismonet/logarithm"
	"seismonet/response"
)

func scale() api.Scale {
	return api.Scale{Correction: api.Table{Step: 10, Low: []int{0, 100, 150}, High: []int{5, 110, 170}}, Num: 1, Den: 1}
}

func zero() api.Scale {
	s := scale()
	s.Correction.Low, s.Correction.High = []int{0, 0}, []int{0, 0}
	return s
}

func with(f func(s *api.Scale)) api.Scale {
	s := scale()
	f(&s)
	return s
}

func gain(num, den int) api.Response {
	return api.Response{Stages: []api.Stage{{Kind: api.StageGain, Num: [3]int{num}, Den: [3]int{den}}}}
}

func section(l ...int) api.Response {
	return api.Response{Stages: []api.Stage{{Kind: api.StageSection, Num: [3]int{l[0], l[1], l[2]}, Den: [3]int{l[3], l[4], l[5]}}}}
}

func TestValidScale(t *testing.T) {
	for i, s := range []api.Scale{scale(), with(func(s *api.Scale) { s.Num, s.Den = 0, api.MaxAngle }), with(func(s *api.Scale) { s.Num = api.MaxAngle })} {
		if !ValidScale(s) {
			t.Error(i)
		}
	}
	for i, s := range []api.Scale{
		{}, with(func(s *api.Scale) { s.Num = -1 }), with(func(s *api.Scale) { s.Num = api.MaxAngle + 1 }), with(func(s *api.Scale) { s.Den = 0 }), with(func(s *api.Scale) { s.Den = api.MaxAngle + 1 }), with(func(s *api.Scale) { s.Correction.Step = 0 }),
	} {
		if ValidScale(s) {
			t.Error(i)
		}
		if x, e := Station(s, gain(0, 0), 0, -1, 0); x != (api.Estimate{}) || e != api.ErrSettings {
			t.Error(i, x, e)
		}
	}
}

func TestStation(t *testing.T) {
	none := api.Response{}
	for i, c := range []struct {
		s         api.Scale
		r         api.Response
		amplitude int
		near, far int
		want      api.Estimate
		e         api.Errno
	}{
		{zero(), none, 1, 0, 0, api.Estimate{Low: -1, High: 1}, api.OK},
		{zero(), none, 1024, 0, 0, api.Estimate{Low: 300, High: 302}, api.OK},
		{zero(), gain(1024, 1), 1, 0, 0, api.Estimate{Low: -302, High: -300}, api.OK},
		{zero(), gain(1, 1024), 1, 0, 0, api.Estimate{Low: 300, High: 302}, api.OK},
		{scale(), none, 1, 0, 100, api.Estimate{Low: -1, High: 111}, api.OK},
		{scale(), none, 1, 100, 101, api.Estimate{Low: 99, High: 171}, api.OK},
		{scale(), none, 0, -1, 0, api.Estimate{}, api.ErrRange},
		{scale(), none, api.MaxSample + 1, -1, 0, api.Estimate{}, api.ErrRange},
		{scale(), gain(0, 1), 1, -1, 0, api.Estimate{}, api.ErrInvalid},
		{scale(), section(1, 0, 0, 1, 0, 1), 1, -1, 0, api.Estimate{}, api.ErrConflict},
		{scale(), section(1, 0, 1, 1, 0, 0), 1, -1, 0, api.Estimate{}, api.ErrNone},
		{scale(), none, 1, -1, 0, api.Estimate{}, api.ErrRange},
		{scale(), none, 1, 2, 1, api.Estimate{}, api.ErrRange},
		{scale(), none, 1, 0, 401, api.Estimate{}, api.ErrBeyond},
		{scale(), none, api.MaxSample, 0, 400, api.Estimate{Low: 902, High: 903 + 170 + 1}, api.OK},
	} {
		if got, e := Station(c.s, c.r, c.amplitude, c.near, c.far); got != c.want || e != c.e {
			t.Error(i, got, e)
		}
	}
}

func TestTrueMagnitudes(t *testing.T) {
	r := rand.New(rand.NewSource(31))
	for range 2000 {
		amplitude := 1 + r.Intn(1<<(1+r.Intn(29)))
		num, den := 1+r.Intn(1000), 1+r.Intn(1000)
		got, e := Station(zero(), gain(num, den), amplitude, 0, 0)
		exact := 100 * math.Log10(float64(amplitude)*float64(den)/float64(num))
		if e != api.OK || float64(got.Low) > exact+0.001 || float64(got.High) < exact-0.001 || got.High-got.Low > 4 {
			t.Fatal(amplitude, num, den, got, exact)
		}
		if amplitude > api.MaxSample/10 {
			continue
		}
		ten, _ := Station(zero(), gain(num, den), 10*amplitude, 0, 0)
		if d := ten.Low - got.Low; d < 97 || d > 103 {
			t.Fatal(got, ten)
		}
		if more, _ := Station(zero(), gain(num, den), amplitude+1, 0, 0); more.Low < got.Low || more.High < got.High {
			t.Fatal(got, more)
		}
	}
}

func TestNetwork(t *testing.T) {
	for i, c := range []struct {
		l    []api.Estimate
		want api.Estimate
		e    api.Errno
	}{
		{[]api.Estimate{{Low: 1, High: 3}, {Low: 10, High: 11}, {Low: 2, High: 9}}, api.Estimate{Low: 2, High: 9}, api.OK}, {[]api.Estimate{{Low: 5, High: 5}}, api.Estimate{Low: 5, High: 5}, api.OK},
		{[]api.Estimate{{Low: 4, High: 5}, {Low: 1, High: 9}}, api.Estimate{Low: 1, High: 5}, api.OK}, {[]api.Estimate{{Low: 4, High: 5}, {Low: 1, High: 9}, {Low: 2, High: 3}, {Low: -7, High: 0}}, api.Estimate{Low: 1, High: 3}, api.OK},
		{nil, api.Estimate{}, api.ErrNone}, {[]api.Estimate{{Low: 1, High: 1}, {Low: 2, High: 1}}, api.Estimate{}, api.ErrInvalid},
	} {
		before := slices.Clone(c.l)
		if got, e := Network(c.l); got != c.want || e != c.e || !slices.Equal(c.l, before) {
			t.Error(i, got, e)
		}
		slices.Reverse(c.l)
		if got, e := Network(c.l); got != c.want || e != c.e {
			t.Error(i, got, e)
		}
	}
}

func TestAgree(t *testing.T) {
	for i, c := range []struct {
		a, b api.Estimate
		want bool
	}{
		{api.Estimate{Low: 1, High: 3}, api.Estimate{Low: 3, High: 5}, true}, {api.Estimate{Low: 1, High: 3}, api.Estimate{Low: 4, High: 5}, false}, {api.Estimate{Low: 1, High: 9}, api.Estimate{Low: 5, High: 4}, false},
		{api.Estimate{Low: 1, High: 9}, api.Estimate{Low: 4, High: 4}, true}, {api.Estimate{Low: 2, High: 1}, api.Estimate{Low: 2, High: 1}, false}, {api.Estimate{Low: -1 << 63, High: 1<<63 - 1}, api.Estimate{}, true},
	} {
		if Agree(c.a, c.b) != c.want || Agree(c.b, c.a) != c.want {
			t.Error(i)
		}
	}
}

// Low and High are those of the formula.
func TestFormula(t *testing.T) {
	r := rand.New(rand.NewSource(44))
	for range 1000 {
		amplitude := 1 + r.Intn(1<<(1+r.Intn(29)))
		stages := gain(1+r.Intn(1000), 1+r.Intn(1000))
		g, _ := response.Gain(stages, 1, 1)
		a, _ := logarithm.Log(amplitude)
		n, _ := logarithm.LogNat(g.Num)
		d, _ := logarithm.LogNat(g.Den)
		level := float64(2*a + d - n)
		want := api.Estimate{Low: logarithm.Floor(int(math.Floor((level-2)/2))) + 100, High: logarithm.Ceil(int(math.Ceil((level+6)/2))) + 110}
		if got, e := Station(scale(), stages, amplitude, 100, 100); got != want || e != api.OK {
			t.Fatal(got, want, e)
		}
	}
	for _, amplitude := range []int{0, -1, api.MaxSample + 1} {
		if _, e := Station(scale(), gain(1, 1), amplitude, 0, 0); e != api.ErrRange {
			t.Error(amplitude, e)
		}
	}
}
