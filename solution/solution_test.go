package solution

import (
	"reflect"
	"slices"
	"testing"

	"seismonet/api"
	"seismonet/bound"
	"seismonet/geometry"
	"seismonet/locate"
	"seismonet/magnitude"
	"seismonet/picker"
)

func at(x, y, z int) api.Position {
	return api.Position{X: x, Y: y, Z: z}
}

func id(station string) api.SourceID {
	return api.SourceID{Network: "GR", Station: station, Channel: "HHZ"}
}

func settings() api.Settings {
	a := api.Association{Region: api.Box{High: at(30, 30, 5)}, Table: api.Table{Step: 1}, Cap: 500, Span: 200, Limit: 5, Least: 3}
	for k := range 80 {
		a.Table.Low, a.Table.High = append(a.Table.Low, 3*k), append(a.Table.High, 3*k+1)
	}
	return api.Settings{Association: a, Scale: api.Scale{Correction: api.Table{Step: 30, Low: []int{0, 100}, High: []int{10, 110}}, Den: 1}}
}

func with(f func(s *api.Settings)) api.Settings {
	s := settings()
	f(&s)
	return s
}

func channel(station string, p api.Position, stages ...api.Stage) api.Channel {
	return api.Channel{Source: id(station), Epochs: []api.Epoch{{From: 100, To: 5000, Rate: api.Rate{Num: 1, Den: 1}, Position: p, Response: api.Response{Stages: stages}}}}
}

func network() api.Inventory {
	gain := api.Stage{Kind: api.StageGain, Num: [3]int{10}, Den: [3]int{1}}
	blind := api.Stage{Kind: api.StageSection, Den: [3]int{1}}
	return api.Inventory{Channels: []api.Channel{
		channel("A", at(0, 0, 0)), channel("B", at(20, 0, 0), gain), channel("C", at(0, 20, 0), blind), channel("D", at(20, 20, 0), gain), channel("E", at(500, 0, 0)),
	}}
}

var broken = api.Inventory{Channels: make([]api.Channel, 1)}

// picks returns picks of an origin at (7, 12, 3), at the time 1000.
func picks() []api.Pick {
	var l []api.Pick
	for i, c := range network().Channels[:4] {
		d := geometry.Floor(geometry.Square(at(7, 12, 3), c.Epochs[0].Position))
		l = append(l, api.Pick{Source: c.Source, Early: 1000 + 3*d, Time: 1001 + 3*d, Late: 1005 + 3*d, Amplitude: 1000 + 100*i})
	}
	return l
}

func unusable() []api.Pick {
	l := []api.Pick{{Source: id("E")}, {Source: id("X")}, {Source: id("A")}, {Source: id("A")}, {Source: id("A")}}
	for i := range l {
		l[i].Early, l[i].Time, l[i].Late = 1000, 1000, 1000
	}
	l[2].Early, l[2].Time = 50, 99
	l[3].Time, l[3].Late = 5000, 5000
	l[4].Amplitude = -1
	return l
}

func TestValidate(t *testing.T) {
	for i, c := range []struct {
		s    api.Settings
		want api.Errno
	}{
		{settings(), api.OK}, {with(func(s *api.Settings) { s.Tolerance = api.MaxCap }), api.OK}, {with(func(s *api.Settings) { s.Tolerance = -1 }), api.ErrSettings}, {with(func(s *api.Settings) { s.Tolerance = api.MaxCap + 1 }), api.ErrSettings},
		{with(func(s *api.Settings) { s.Scale.Den = 0 }), api.ErrSettings}, {with(func(s *api.Settings) { s.Association.Least = 1 }), api.ErrSettings}, {with(func(s *api.Settings) { s.Association.Table.Step = 0 }), api.ErrSettings},
	} {
		if e := Validate(c.s); e != c.want {
			t.Error(i, e)
		}
		if _, ok := Usable(c.s, network(), picks()[0]); ok != (c.want == api.OK) {
			t.Error(i)
		}
		if c.want == api.OK {
			c.want = api.ErrInvalid
		}
		if p, e := Problem(c.s, broken, nil); !reflect.DeepEqual(p, api.Problem{}) || e != c.want {
			t.Error(i, e)
		}
		if x, e := Solve(c.s, broken, nil); !reflect.DeepEqual(x, api.Solution{}) || e != c.want {
			t.Error(i, e)
		}
		if l, e := Estimates(c.s, broken, nil, api.Box{Low: at(1, 1, 1)}); l != nil || e != c.want {
			t.Error(i, e)
		}
	}
}

func TestUsable(t *testing.T) {
	for i, p := range picks() {
		a, ok := Usable(settings(), network(), p)
		if want := (api.Phase{Station: network().Channels[i].Epochs[0].Position, Early: p.Early, Late: p.Late, Weight: 1}); a != want || !ok || !bound.ValidPhase(a) {
			t.Error(i, a, ok)
		}
		if a, ok := Usable(settings(), broken, p); ok || a != (api.Phase{}) {
			t.Error(i)
		}
	}
	for time, want := range map[int]bool{99: false, 100: true, 4999: true, 5000: false} {
		if _, ok := Usable(settings(), network(), api.Pick{Source: id("A"), Time: time, Late: 9999}); ok != want {
			t.Error(time, ok)
		}
	}
	for i, p := range unusable() {
		if a, ok := Usable(settings(), network(), p); ok || a != (api.Phase{}) {
			t.Error(i, a)
		}
		if _, e := Solve(settings(), network(), []api.Pick{p}); e != api.ErrNone {
			t.Error(i, e)
		}
	}
}

func TestProblem(t *testing.T) {
	l := slices.Concat(unusable(), picks(), picks())
	slices.Reverse(l)
	p, e := Problem(settings(), network(), l)
	s := settings().Association
	want := api.Problem{Region: s.Region, Table: s.Table, Cap: s.Cap}
	for _, x := range picker.Sort(picks()) {
		a, _ := Usable(settings(), network(), x)
		want.Phases = append(want.Phases, a)
	}
	if !reflect.DeepEqual(p, want) || e != api.OK {
		t.Error(p, e)
	}
	if _, e := Problem(settings(), network(), unusable()); e != api.ErrNone {
		t.Error(e)
	}
	var many []api.Pick
	for i := range api.MaxPhases + 1 {
		x := picks()[0]
		x.Amplitude = i
		many = append(many, x)
	}
	if p, e := Problem(settings(), network(), many[1:]); len(p.Phases) != api.MaxPhases || e != api.OK {
		t.Error(e)
	}
	if _, e := Problem(settings(), network(), many); e != api.ErrLimit {
		t.Error(e)
	}
	if x, e := Solve(settings(), network(), many); !reflect.DeepEqual(x, api.Solution{}) || e != api.ErrLimit {
		t.Error(e)
	}
}

func TestSolveAndEstimates(t *testing.T) {
	s := settings()
	l := slices.Concat(picks(), unusable())
	x, e := Solve(s, network(), l)
	p, _ := Problem(s, network(), l)
	location, _ := locate.Locate(p, s.Tolerance)
	estimates, f := Estimates(s, network(), l, location.Area)
	combined, _ := magnitude.Network(estimates)
	want := api.Solution{Picks: picker.Sort(picks()), Location: location, Magnitude: combined, Count: 3}
	if !reflect.DeepEqual(x, want) || e != api.OK || f != api.OK || len(estimates) != 3 {
		t.Error(x, want, e, f)
	}
	for i, k := range []int{0, 1, 3} {
		c := network().Channels[k]
		station := c.Epochs[0].Position
		want, _ := magnitude.Station(s.Scale, c.Epochs[0].Response, picks()[k].Amplitude, geometry.Near(location.Area, station), geometry.Far(location.Area, station))
		if estimates[i] != want {
			t.Error(i, estimates[i], want)
		}
	}
	slices.Reverse(l)
	if again, _ := Solve(s, network(), l); !Same(again, x) {
		t.Error("the order matters")
	}
	if again, _ := Solve(s, network(), x.Picks); !Same(again, x) {
		t.Error("solving again changes")
	}
	blind, e := Solve(s, network(), picks()[2:3])
	if blind.Count != 0 || blind.Magnitude != (api.Estimate{}) || e != api.OK {
		t.Error(blind, e)
	}
	if l, e := Estimates(s, network(), picks(), api.Box{Low: at(1, 1, 1)}); l != nil || e != api.ErrRegion {
		t.Error(l, e)
	}
	if l, e := Estimates(s, network(), nil, api.Box{}); len(l) != 0 || e != api.OK {
		t.Error(l, e)
	}
}

func TestTries(t *testing.T) {
	s := with(func(s *api.Settings) { s.Association.Region.High = at(30, 30, 30) })
	l := []api.Pick{{Source: id("A"), Time: 1000, Early: 1000, Late: 1000}, {Source: id("A"), Time: 1300, Early: 1300, Late: 1300}}
	if x, e := Solve(s, network(), l); !reflect.DeepEqual(x, api.Solution{}) || e != api.ErrTries {
		t.Error(x, e)
	}
	s.Tolerance = 1000
	if x, e := Solve(s, network(), l); len(x.Picks) != 2 || e != api.OK {
		t.Error(x, e)
	}
}

func TestSame(t *testing.T) {
	x := api.Solution{Picks: picks(), Count: 1}
	for i, f := range []func(x *api.Solution){
		func(x *api.Solution) { x.Picks = x.Picks[1:] }, func(x *api.Solution) { x.Count = 2 }, func(x *api.Solution) { x.Location.Lower = 1 }, func(x *api.Solution) { x.Magnitude.High = 1 },
	} {
		y := x
		f(&y)
		if Same(x, y) || !Same(y, y) {
			t.Error(i)
		}
	}
	if !Same(api.Solution{}, api.Solution{Picks: []api.Pick{}}) {
		t.Error("no picks")
	}
}
