package misfit

import (
	"math/rand"
	"slices"
	"testing"

	"seismonet/api"
	"seismonet/geometry"
)

var table = api.Table{Step: 10, Low: []int{0, 15, 32, 50, 70}, High: []int{0, 20, 40, 60, 80}}

func at(x, y, z int) api.Position {
	return api.Position{X: x, Y: y, Z: z}
}

func phase(x, y, early, late, weight int) api.Phase {
	return api.Phase{Station: at(x, y, 0), Early: early, Late: late, Weight: weight}
}

func problem(most int, l ...api.Phase) api.Problem {
	return api.Problem{Region: api.Box{High: at(9, 9, 9)}, Table: table, Phases: l, Cap: most}
}

func with(f func(p *api.Problem)) api.Problem {
	p := problem(100, phase(0, 0, 5, 6, 1), phase(9, 0, 7, 8, 2))
	f(&p)
	return p
}

func zones(ends ...int) []api.Zone {
	var l []api.Zone
	for i := 0; i < len(ends); i += 2 {
		l = append(l, api.Zone{From: ends[i], To: ends[i+1]})
	}
	return l
}

func TestValidate(t *testing.T) {
	for i, c := range []struct {
		f    func(p *api.Problem)
		want api.Errno
	}{
		{func(p *api.Problem) {}, api.OK},
		{func(p *api.Problem) { p.Phases = slices.Repeat(p.Phases, 32); p.Cap = api.MaxCap }, api.OK},
		{func(p *api.Problem) { p.Cap = 1 }, api.OK},
		{func(p *api.Problem) { p.Region.Low.X = 10; p.Table.Step = 0 }, api.ErrRegion},
		{func(p *api.Problem) { p.Table.Step = 0; p.Phases = nil }, api.ErrTable},
		{func(p *api.Problem) { p.Phases = nil; p.Cap = 0 }, api.ErrNone},
		{func(p *api.Problem) { p.Phases = make([]api.Phase, 65); p.Cap = 0 }, api.ErrLimit},
		{func(p *api.Problem) { p.Cap = 0; p.Phases[0].Weight = 0 }, api.ErrRange},
		{func(p *api.Problem) { p.Cap = api.MaxCap + 1 }, api.ErrRange},
		{func(p *api.Problem) { p.Phases[1].Weight = 0 }, api.ErrPhase},
		{func(p *api.Problem) { p.Phases[1].Station.X = 50 }, api.ErrBeyond},
		{func(p *api.Problem) { p.Phases[0].Station.X = 50; p.Phases[1].Weight = 0 }, api.ErrBeyond},
		{func(p *api.Problem) { p.Phases[0].Weight = 0; p.Phases[1].Station.X = 50 }, api.ErrPhase},
	} {
		p := with(c.f)
		inside, outside := at(1, 1, 1), at(10, 0, 0)
		if e := Validate(p); e != c.want {
			t.Error(i, e)
		}
		if c.want == api.OK {
			c.want = api.ErrRegion
			if _, _, e := At(p, inside); e != api.OK {
				t.Error(i, e)
			}
		}
		if l, e := Zones(p, point(outside)); l != nil || e != c.want {
			t.Error(i, e)
		}
		if a, b, e := At(p, outside); a != 0 || b != 0 || e != c.want {
			t.Error(i, e)
		}
		if n, e := Bound(p, point(outside)); n != 0 || e != c.want {
			t.Error(i, e)
		}
		if l, e := Residuals(p, outside, 1<<60); l != nil || e != c.want {
			t.Error(i, e)
		}
	}
}

func TestExamples(t *testing.T) {
	for i, c := range []struct {
		most       int
		zones      []api.Zone
		time, cost int
	}{
		{100, zones(10, 20, 15, 30), 15, 0}, {10, zones(0, 0, 0, 0, 100, 100), 0, 10}, {100, zones(0, 4, 8, 9), 4, 4}, {100, zones(5, 9), 5, 0}, {100, zones(8, 9, 0, 4), 4, 4}, {100, zones(0, 0, 50, 50, 60, 60), 50, 60},
	} {
		p := problem(c.most, slices.Repeat([]api.Phase{{Weight: 1}}, len(c.zones))...)
		if time, cost := Best(p, c.zones); time != c.time || cost != c.cost {
			t.Error(i, time, cost)
		}
	}
	heavy := problem(100, api.Phase{Weight: 1}, api.Phase{Weight: 3})
	if time, cost := Best(heavy, zones(0, 4, 8, 9)); time != 8 || cost != 4 {
		t.Error(time, cost)
	}
	if time, cost := Best(api.Problem{}, zones(3, 4)); time != 3 || cost != 0 {
		t.Error(time, cost)
	}
	if time, cost := Best(heavy, nil); time != 0 || cost != 0 {
		t.Error(time, cost)
	}
}

func TestResidualAndCost(t *testing.T) {
	z := api.Zone{From: 5, To: 9}
	for time, want := range map[int]int{0: 5, 4: 1, 5: 0, 7: 0, 9: 0, 10: 1, 1 << 54: 1<<54 - 9, -1 << 54: 1<<54 + 5} {
		if got := Residual(z, time); got != want {
			t.Error(time, got)
		}
	}
	p := problem(3, api.Phase{Weight: 2}, api.Phase{Weight: 5})
	for time, want := range map[int]int{5: 5, 6: 0, 7: 0, 9: 0, 10: 2, 11: 4 + 5, 12: 6 + 10, 20: 6 + 15, 4: 2 + 10} {
		if got := Cost(p, zones(5, 9, 6, 10), time); got != want {
			t.Error(time, got, want)
		}
	}
}

func random(r *rand.Rand) api.Problem {
	p := problem(5 + r.Intn(100))
	for range 1 + r.Intn(5) {
		early := 50 + r.Intn(60)
		p.Phases = append(p.Phases, phase(r.Intn(20)-5, r.Intn(20)-5, early, early+r.Intn(5), 1+r.Intn(3)))
	}
	return p
}

func TestBestIsLeast(t *testing.T) {
	r := rand.New(rand.NewSource(23))
	for range 300 {
		p := random(r)
		x := at(r.Intn(10), r.Intn(10), r.Intn(10))
		l, e := Zones(p, point(x))
		time, cost, e2 := At(p, x)
		if e != api.OK || e2 != api.OK || len(l) != len(p.Phases) || Cost(p, l, time) != cost {
			t.Fatal(e, e2)
		}
		least, first := 1<<60, 0
		for try := -100; try < 250; try++ {
			end := slices.ContainsFunc(l, func(z api.Zone) bool { return z.From == try || z.To == try })
			if c := Cost(p, l, try); c < least {
				least = c
			}
			if c := Cost(p, l, try); end && c == cost && first == 0 {
				first = try
			}
		}
		if least != cost || first != time {
			t.Fatal(p, x, time, cost, least, first)
		}
		residuals, e := Residuals(p, x, time)
		sum := 0
		for i, n := range residuals {
			sum += p.Phases[i].Weight * min(n, p.Cap)
		}
		if e != api.OK || sum != cost {
			t.Fatal(residuals, e)
		}
	}
}

func TestBoundsOfParts(t *testing.T) {
	r := rand.New(rand.NewSource(24))
	for range 200 {
		p := random(r)
		b := p.Region
		before := 0
		for {
			n, e := Bound(p, b)
			_, cost, _ := At(p, geometry.Center(b))
			if e != api.OK || n < before || n > cost || geometry.Points(b) == 1 && n != cost {
				t.Fatal(p, b, n, cost)
			}
			before = n
			first, second, ok := geometry.Split(b)
			if !ok {
				break
			}
			b = first
			if r.Intn(2) == 0 {
				b = second
			}
		}
	}
}

func TestResidualsErrors(t *testing.T) {
	p := with(func(p *api.Problem) {})
	for _, time := range []int{1<<54 + 1, -1<<54 - 1, 1<<63 - 1, -1 << 63} {
		if l, e := Residuals(p, at(1, 1, 1), time); l != nil || e != api.ErrRange {
			t.Error(time, e)
		}
	}
	for _, time := range []int{1 << 54, -1 << 54} {
		if l, e := Residuals(p, at(1, 1, 1), time); len(l) != 2 || e != api.OK {
			t.Error(time, e)
		}
	}
	if _, e := Bound(p, api.Box{High: at(9, 9, 10)}); e != api.ErrRegion {
		t.Error(e)
	}
	if _, e := Zones(p, api.Box{Low: at(1, 1, 1)}); e != api.ErrRegion {
		t.Error(e)
	}
}
