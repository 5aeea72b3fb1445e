package rule

import (
	"slices"
	"testing"

	"seismonet/api"
)

func policy() api.Policy {
	return api.Policy{Rules: []api.Rule{{Magnitude: 300, Picks: 3, Misfit: 100, Window: 60}, {Magnitude: 500, Picks: 5, Misfit: 100, Window: 30}}, Distance: 10, Every: 5}
}

func event() api.Event {
	s := api.Solution{Picks: make([]api.Pick, 5), Location: api.Location{Time: 1000}, Magnitude: api.Estimate{Low: 480, High: 520}, Count: 1}
	return api.Event{Solution: s}
}

func with(f func(s *api.Solution)) api.Event {
	e := event()
	f(&e.Solution)
	return e
}

func TestValidate(t *testing.T) {
	for i, f := range []func(p *api.Policy){
		func(p *api.Policy) { p.Rules, p.Distance, p.Every = p.Rules[:1], 0, api.MaxTime }, func(p *api.Policy) { p.Rules = slices.Repeat(p.Rules, 4) }, func(p *api.Policy) { p.Distance, p.Every = api.MaxTime, 0 },
		func(p *api.Policy) {
			p.Rules[0] = api.Rule{Magnitude: -1000, Picks: 64, Misfit: api.MaxTime, Window: api.MaxTime}
		},
		func(p *api.Policy) { p.Rules[0] = api.Rule{Magnitude: 2000, Picks: 1} },
		func(p *api.Policy) { p.Rules = nil }, func(p *api.Policy) { p.Rules = slices.Repeat(p.Rules, 5)[1:] }, func(p *api.Policy) { p.Distance = -1 }, func(p *api.Policy) { p.Distance = api.MaxTime + 1 },
		func(p *api.Policy) { p.Every = -1 }, func(p *api.Policy) { p.Every = api.MaxTime + 1 }, func(p *api.Policy) { p.Rules[1].Magnitude = -1001 }, func(p *api.Policy) { p.Rules[1].Magnitude = 2001 },
		func(p *api.Policy) { p.Rules[1].Picks = 0 }, func(p *api.Policy) { p.Rules[1].Picks = 65 }, func(p *api.Policy) { p.Rules[1].Misfit = -1 }, func(p *api.Policy) { p.Rules[1].Misfit = api.MaxTime + 1 },
		func(p *api.Policy) { p.Rules[1].Window = -1 }, func(p *api.Policy) { p.Rules[1].Window = api.MaxTime + 1 },
	} {
		p := policy()
		f(&p)
		if e := Validate(p); (e == api.OK) != (i < 5) || i >= 5 && e != api.ErrSettings {
			t.Error(i, e)
		}
		if i >= 5 && (Level(p, event()) != 0 || Timely(p, event(), 1000) || Moved(p, event(), api.Event{})) {
			t.Error(i)
		}
	}
}

func TestMeetsAndLevel(t *testing.T) {
	for i, c := range []struct {
		f           func(s *api.Solution)
		meets       bool
		level, last int
	}{
		{func(s *api.Solution) {}, true, 1, 1060}, {func(s *api.Solution) { s.Magnitude.Low = 500 }, true, 2, 1030}, {func(s *api.Solution) { s.Magnitude.Low = 499 }, true, 1, 1060}, {func(s *api.Solution) { s.Magnitude.Low = 300 }, true, 1, 1060},
		{func(s *api.Solution) { s.Magnitude.Low = 299 }, false, 0, 0}, {func(s *api.Solution) { s.Picks = s.Picks[2:] }, true, 1, 1060}, {func(s *api.Solution) { s.Picks = s.Picks[3:] }, false, 0, 0},
		{func(s *api.Solution) { s.Location.Misfit = 100 }, true, 1, 1060}, {func(s *api.Solution) { s.Location.Misfit = 101 }, false, 0, 0}, {func(s *api.Solution) { s.Count = 0 }, false, 0, 0},
		{func(s *api.Solution) { s.Count = -1 }, false, 0, 0}, {func(s *api.Solution) { s.Magnitude.Low, s.Picks = 900, s.Picks[1:] }, true, 1, 1060},
	} {
		e := with(c.f)
		if Meets(policy().Rules[0], e) != c.meets || Level(policy(), e) != c.level {
			t.Error(i)
		}
		for _, now := range []int{999, 1000, 1030, 1031, 1060, 1061} {
			if Timely(policy(), e, now) != (now >= 1000 && now <= c.last) {
				t.Error(i, now)
			}
		}
	}
	reversed := policy()
	slices.Reverse(reversed.Rules)
	if n := Level(reversed, with(func(s *api.Solution) { s.Magnitude.Low = 900 })); n != 2 {
		t.Error("the last rule counts", n)
	}
}

func TestMoved(t *testing.T) {
	far := policy()
	far.Distance = 4*api.MaxPlace + 1
	for i, c := range []struct {
		p    api.Policy
		f    func(s *api.Solution)
		want bool
	}{
		{policy(), func(s *api.Solution) {}, false}, {policy(), func(s *api.Solution) { s.Location.Point.X = 10 }, false}, {policy(), func(s *api.Solution) { s.Location.Point = api.Position{X: 10, Z: 1} }, true},
		{policy(), func(s *api.Solution) { s.Location.Time = 1010 }, false}, {policy(), func(s *api.Solution) { s.Location.Time = 1011 }, true}, {policy(), func(s *api.Solution) { s.Location.Time = 989 }, true},
		{policy(), func(s *api.Solution) { s.Location.Time = -1 << 63 }, true}, {policy(), func(s *api.Solution) { s.Location.Time = 1<<63 - 1 }, true}, {policy(), func(s *api.Solution) { s.Count = 0 }, true},
		{policy(), func(s *api.Solution) { s.Magnitude = api.Estimate{Low: 520, High: 600} }, true}, {policy(), func(s *api.Solution) { s.Magnitude = api.Estimate{Low: 450, High: 480} }, false},
		{policy(), func(s *api.Solution) { s.Magnitude = api.Estimate{Low: 450, High: 479} }, true}, {policy(), func(s *api.Solution) { s.Magnitude.Low = 521 }, true}, {policy(), func(s *api.Solution) { s.Location.Point.X = 1 << 60 }, false},
		{far, func(s *api.Solution) { s.Location.Point = api.Position{X: api.MaxPlace, Y: api.MaxPlace} }, false}, {policy(), func(s *api.Solution) { s.Location.Misfit = 101 }, true},
	} {
		a, b := event(), with(c.f)
		if Moved(c.p, a, b) != c.want || Moved(c.p, b, a) != c.want {
			t.Error(i)
		}
	}
}
