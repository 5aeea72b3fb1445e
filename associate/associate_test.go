package associate

import (
	"math/rand"
	"reflect"
	"slices"
	"testing"

	"seismonet/api"
	"seismonet/geometry"
	"seismonet/travel"
)

func at(x, y, z int) api.Position {
	return api.Position{X: x, Y: y, Z: z}
}

func settings() api.Association {
	s := api.Association{Region: api.Box{High: at(30, 30, 5)}, Table: api.Table{Step: 1}, Cap: 500, Span: 200, Limit: 5, Least: 3}
	for k := range 80 {
		s.Table.Low, s.Table.High = append(s.Table.Low, 3*k), append(s.Table.High, 3*k+1)
	}
	return s
}

func with(f func(s *api.Association)) api.Association {
	s := settings()
	f(&s)
	return s
}

var stations = []api.Position{at(0, 0, 0), at(30, 0, 0), at(0, 30, 0), at(30, 30, 0), at(15, 15, 0), at(10, 40, 0)}

// arrivals returns the phases of an origin at some stations.
func arrivals(s api.Association, x api.Position, time int, l ...api.Position) []api.Phase {
	var phases []api.Phase
	for _, p := range l {
		low, high, _ := travel.Interval(s.Table, x, p)
		phases = append(phases, api.Phase{Station: p, Early: time + low, Late: time + high, Weight: 1})
	}
	return phases
}

func TestValidate(t *testing.T) {
	good := api.Phase{Weight: 1}
	bad := api.Phase{}
	far := api.Phase{Station: at(100, 0, 0), Weight: 1}
	for i, c := range []struct {
		s    api.Association
		l    []api.Phase
		want api.Errno
	}{
		{settings(), nil, api.OK}, {settings(), slices.Repeat([]api.Phase{good}, api.MaxPicks), api.OK}, {with(func(s *api.Association) {
			s.Cap, s.Tolerance, s.Limit, s.Span, s.Least = api.MaxCap, api.MaxCap, api.MaxCap, api.MaxTravel, 16
		}), nil, api.OK},
		{with(func(s *api.Association) { s.Cap, s.Tolerance, s.Limit, s.Span, s.Least = 1, 0, 0, 0, 2 }), nil, api.OK},
		{with(func(s *api.Association) { s.Region.Low.X = 31 }), make([]api.Phase, 999), api.ErrSettings}, {with(func(s *api.Association) { s.Table.Step = 0 }), nil, api.ErrSettings}, {with(func(s *api.Association) { s.Cap = 0 }), nil, api.ErrSettings},
		{with(func(s *api.Association) { s.Cap = api.MaxCap + 1 }), nil, api.ErrSettings}, {with(func(s *api.Association) { s.Tolerance = -1 }), nil, api.ErrSettings}, {with(func(s *api.Association) { s.Tolerance = api.MaxCap + 1 }), nil, api.ErrSettings},
		{with(func(s *api.Association) { s.Limit = -1 }), nil, api.ErrSettings}, {with(func(s *api.Association) { s.Limit = api.MaxCap + 1 }), nil, api.ErrSettings}, {with(func(s *api.Association) { s.Span = -1 }), nil, api.ErrSettings},
		{with(func(s *api.Association) { s.Span = api.MaxTravel + 1 }), nil, api.ErrSettings}, {with(func(s *api.Association) { s.Least = 1 }), nil, api.ErrSettings}, {with(func(s *api.Association) { s.Least = 17 }), nil, api.ErrSettings},
		{settings(), slices.Repeat([]api.Phase{bad}, api.MaxPicks+1), api.ErrLimit}, {settings(), []api.Phase{good, bad, far}, api.ErrPhase}, {settings(), []api.Phase{good, far, bad}, api.ErrBeyond},
	} {
		if e := Validate(c.s, c.l); e != c.want {
			t.Error(i, e)
		}
		groups, left, e := Associate(c.s, c.l)
		if e != c.want || e != api.OK && (groups != nil || left != nil) {
			t.Error(i, e)
		}
		if c.want != api.OK && Explains(c.s, c.l, api.Group{Members: []int{0, 1, 2}}) {
			t.Error(i)
		}
	}
}

func TestOrder(t *testing.T) {
	l := []api.Phase{{Early: 5, Late: 9}, {Early: 5, Late: 8, Weight: 2}, {Early: 5, Late: 8, Weight: 1}, {Early: 5, Late: 8, Station: at(-1, 0, 0), Weight: 9}, {Early: 4, Late: 99}, {Early: 5, Late: 8, Weight: 1}, {Early: -1 << 63}}
	if got := Order(l); !slices.Equal(got, []int{6, 4, 3, 2, 5, 1, 0}) {
		t.Error(got)
	}
	if got := Order(nil); len(got) != 0 {
		t.Error(got)
	}
}

func TestOneEvent(t *testing.T) {
	s := settings()
	l := arrivals(s, at(7, 12, 3), 1000, stations...)
	slices.Reverse(l)
	groups, left, e := Associate(s, l)
	if len(groups) != 1 || !slices.Equal(groups[0].Members, []int{0, 1, 2, 3, 4, 5}) || len(left) != 0 || e != api.OK || !Explains(s, l, groups[0]) {
		t.Error(groups, left, e)
	}
}

func TestTwoEventsAndNoise(t *testing.T) {
	s := settings()
	first := arrivals(s, at(5, 5, 0), 1000, stations[:4]...)
	second := arrivals(s, at(20, 20, 0), 2000, stations...)
	noise := []api.Phase{{Early: 100, Late: 101, Weight: 1}, {Station: at(1, 1, 0), Early: 150, Late: 151, Weight: 1}, {Early: 1500, Late: 1500, Weight: 1}}
	l := slices.Concat(second, noise, first)
	groups, left, e := Associate(s, l)
	if len(groups) != 2 || !slices.Equal(groups[0].Members, []int{9, 10, 11, 12}) || !slices.Equal(groups[1].Members, []int{0, 1, 2, 3, 4, 5}) || !slices.Equal(left, []int{6, 7, 8}) || e != api.OK {
		t.Error(groups, left, e)
	}
	alone, _, _ := Associate(s, first)
	if groups[0].Point != alone[0].Point || groups[0].Time != alone[0].Time {
		t.Error(groups[0], alone)
	}
}

func TestExamples(t *testing.T) {
	s := with(func(s *api.Association) { s.Least, s.Span = 2, 60*api.Second })
	hour := 3600 * api.Second
	if groups, left, e := Associate(s, nil); len(groups) != 0 || len(left) != 0 || e != api.OK {
		t.Error(groups, left, e)
	}
	for _, l := range [][]api.Phase{{{Weight: 1}}, {{Weight: 1}, {Early: hour, Late: hour, Weight: 1}}} {
		groups, left, e := Associate(s, l)
		if len(groups) != 0 || len(left) != len(l) || e != api.OK {
			t.Error(groups, left, e)
		}
	}
}

func TestWindow(t *testing.T) {
	s := with(func(s *api.Association) { s.Least, s.Limit = 2, 0 })
	same := func(n, early int) []api.Phase {
		return slices.Repeat([]api.Phase{{Station: at(3, 3, 0), Early: early, Late: early, Weight: 1}}, n)
	}
	groups, left, e := Associate(s, same(20, 500))
	if len(groups) != 2 || len(groups[0].Members) != api.MaxGroup || len(groups[1].Members) != 4 || len(left) != 0 || e != api.OK {
		t.Error(groups, left, e)
	}
	groups, left, _ = Associate(s, same(17, 500))
	if len(groups) != 1 || !slices.Equal(left, []int{16}) {
		t.Error(groups, left)
	}
	early := same(1, 500)
	for gap, want := range map[int]int{200: 1, 201: 0} {
		later := same(1, 500+gap)
		later[0].Early, later[0].Late = 500+gap, 500+gap
		l := append(slices.Clone(early), later...)
		wide := s
		wide.Limit, wide.Tolerance = 1000, 1000
		groups, left, e := Associate(wide, l)
		if len(groups) != want || len(left) != 2-2*want || e != api.OK {
			t.Error(gap, groups, left, e)
		}
	}
}

func TestExplains(t *testing.T) {
	s := settings()
	l := arrivals(s, at(5, 5, 0), 1000, stations...)
	good := api.Group{Members: []int{0, 2, 5}, Point: at(5, 5, 0), Time: 1000}
	many := slices.Repeat([]api.Phase{l[0]}, 100)
	all := api.Group{Point: at(5, 5, 0), Time: 1000}
	for i := range many {
		all.Members = append(all.Members, i)
	}
	if !Explains(s, l, good) || !Explains(s, many, all) {
		t.Error("good")
	}
	for i, f := range []func(g *api.Group){
		func(g *api.Group) { g.Members = []int{0, 2} }, func(g *api.Group) { g.Members = nil }, func(g *api.Group) { g.Members = []int{0, 0, 2} }, func(g *api.Group) { g.Members = []int{2, 0, 5} },
		func(g *api.Group) { g.Members = []int{0, 2, 6} }, func(g *api.Group) { g.Members = []int{-1, 2, 5} }, func(g *api.Group) { g.Point.X = 31 }, func(g *api.Group) { g.Point.X = 1 << 40 },
		func(g *api.Group) { g.Time = 1 << 55 }, func(g *api.Group) { g.Time = -1 << 63 }, func(g *api.Group) { g.Time += 70 },
	} {
		g := good
		f(&g)
		if Explains(s, l, g) {
			t.Error(i)
		}
	}
}

func TestTries(t *testing.T) {
	s := with(func(s *api.Association) { s.Least, s.Region.High = 2, at(30, 30, 30) })
	l := []api.Phase{{Early: 500, Late: 500, Weight: 1}, {Early: 700, Late: 700, Weight: 1}}
	if groups, left, e := Associate(s, l); groups != nil || left != nil || e != api.ErrTries {
		t.Error(groups, left, e)
	}
}

func TestRandomPhases(t *testing.T) {
	r := rand.New(rand.NewSource(27))
	for range 25 {
		s := with(func(s *api.Association) { s.Tolerance = 20 })
		var l []api.Phase
		for range 3 {
			l = append(l, arrivals(s, at(r.Intn(31), r.Intn(31), r.Intn(6)), r.Intn(1500), stations[r.Intn(3):]...)...)
		}
		for range r.Intn(6) {
			early := r.Intn(1500)
			l = append(l, api.Phase{Station: at(r.Intn(31), r.Intn(31), 0), Early: early, Late: early + r.Intn(5), Weight: 1 + r.Intn(3)})
		}
		groups, left, e := Associate(s, l)
		if e == api.ErrTries {
			continue
		}
		var seen []int
		for _, g := range groups {
			if !Explains(s, l, g) {
				t.Fatal(g)
			}
			seen = append(seen, g.Members...)
		}
		seen = append(seen, left...)
		slices.Sort(seen)
		if !slices.Equal(seen, Order(make([]api.Phase, len(l)))) || !slices.IsSorted(left) {
			t.Fatal(groups, left)
		}
		checkShuffled(t, r, s, l, groups)
	}
}

func checkShuffled(t *testing.T, r *rand.Rand, s api.Association, l []api.Phase, groups []api.Group) {
	t.Helper()
	turned := slices.Clone(l)
	r.Shuffle(len(turned), func(i, k int) { turned[i], turned[k] = turned[k], turned[i] })
	again, _, e := Associate(s, turned)
	if e != api.OK || len(again) != len(groups) {
		t.Fatal(e)
	}
	members := func(l []api.Phase, g api.Group) []api.Phase {
		var phases []api.Phase
		for _, i := range g.Members {
			phases = append(phases, l[i])
		}
		slices.SortFunc(phases, func(a, b api.Phase) int {
			if a.Early != b.Early {
				return a.Early - b.Early
			}
			return geometry.Compare(a.Station, b.Station)
		})
		return phases
	}
	for i, g := range groups {
		if g.Point != again[i].Point || g.Time != again[i].Time || !reflect.DeepEqual(members(l, g), members(turned, again[i])) {
			t.Fatal(g, again[i])
		}
	}
}

func TestExplainsAtTheEnds(t *testing.T) {
	last := 2 * api.MaxTime
	l := slices.Repeat([]api.Phase{{Early: last, Late: last, Weight: 1}}, 3)
	for _, c := range []struct {
		s    api.Association
		time int
		want bool
	}{
		{settings(), last, true}, {with(func(s *api.Association) { s.Limit = 100 }), last + 1, false}, {with(func(s *api.Association) { s.Limit = 100 }), last, true}, {with(func(s *api.Association) { s.Cap = 0 }), last, false}, {with(func(s *api.Association) { s.Least = 4 }), last, false},
	} {
		if got := Explains(c.s, l, api.Group{Members: []int{0, 1, 2}, Time: c.time}); got != c.want {
			t.Error(c.time, got)
		}
	}
}
