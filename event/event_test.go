package event

import (
	"math/rand"
	"slices"
	"testing"

	"seismonet/api"
	"seismonet/geometry"
	"seismonet/picker"
	"seismonet/solution"
)

func at(x, y, z int) api.Position {
	return api.Position{X: x, Y: y, Z: z}
}

func id(station string) api.SourceID {
	return api.SourceID{Network: "GR", Station: station, Channel: "HHZ"}
}

func settings() api.Settings {
	a := api.Association{Region: api.Box{High: at(30, 30, 5)}, Table: api.Table{Step: 1}, Cap: 500, Span: 200, Limit: 30, Least: 3, Tolerance: 20}
	for k := range 80 {
		a.Table.Low, a.Table.High = append(a.Table.Low, 3*k), append(a.Table.High, 3*k+1)
	}
	return api.Settings{Association: a, Tolerance: 5, Scale: api.Scale{Correction: api.Table{Step: 30, Low: []int{0, 100}, High: []int{10, 110}}, Den: 1}}
}

func network() api.Inventory {
	var inv api.Inventory
	for i, p := range []api.Position{at(0, 0, 0), at(20, 0, 0), at(0, 20, 0), at(20, 20, 0)} {
		epoch := api.Epoch{From: 100, To: 50000, Rate: api.Rate{Num: 1, Den: 1}, Position: p}
		inv.Channels = append(inv.Channels, api.Channel{Source: id(string([]byte{byte('A' + i)})), Epochs: []api.Epoch{epoch}})
	}
	return inv
}

func pick(station string, time int) api.Pick {
	return api.Pick{Source: id(station), Time: time, Early: time - 2, Late: time + 2, Amplitude: 100}
}

func picks(x api.Position, time int) []api.Pick {
	var l []api.Pick
	for _, c := range network().Channels {
		l = append(l, pick(c.Source.Station, time+3*geometry.Floor(geometry.Square(x, c.Epochs[0].Position))))
	}
	return l
}

func TestCompare(t *testing.T) {
	ascending := []api.Pick{pick("Z", 1), pick("A", 2), {Source: id("A"), Time: 2, Early: 1}, pick("B", 2), pick("A", 3)}
	for i, a := range ascending {
		for k, b := range ascending {
			want := 0
			if i < k {
				want = -1
			} else if i > k {
				want = 1
			}
			if got := Compare(a, b); got != want {
				t.Error(i, k, got)
			}
		}
	}
}

func event(l ...api.Pick) api.Event {
	return api.Event{Name: slices.MinFunc(l, Compare), Solution: api.Solution{Picks: picker.Sort(l)}}
}

func TestLists(t *testing.T) {
	a, b, c := event(pick("B", 5), pick("A", 9)), event(pick("A", 6)), event(pick("A", 8), pick("B", 8))
	good := []api.Event{a, b, c}
	if !Valid(good) || !Valid(nil) || !Same(good, slices.Clone(good)) || Same(good, good[1:]) {
		t.Error("good")
	}
	if Index(good, pick("A", 6)) != 1 || Index(good, pick("A", 9)) != -1 || Index(nil, api.Pick{}) != -1 || Index([]api.Event{a, b, b}, b.Name) != 1 {
		t.Error("Index")
	}
	wrong := event(pick("B", 5), pick("A", 9))
	wrong.Name = pick("A", 9)
	unsorted := event(pick("B", 5), pick("A", 9))
	slices.Reverse(unsorted.Solution.Picks)
	twice := event(pick("B", 5))
	twice.Solution.Picks = append(twice.Solution.Picks, pick("B", 5))
	for i, l := range [][]api.Event{{b, a}, {a, a}, {a, event(pick("A", 9))}, {{}}, {wrong}, {unsorted}, {twice}, {a, b, {Name: pick("A", 7)}}} {
		if Valid(l) || Same(l, good) {
			t.Error(i)
		}
	}
	other := slices.Clone(good)
	other[1].Solution.Count = 7
	if Same(other, good) {
		t.Error("Same")
	}
}

func TestErrors(t *testing.T) {
	bad := settings()
	bad.Tolerance = -1
	broken := api.Inventory{Channels: make([]api.Channel, 1)}
	var many []api.Pick
	for i := range api.MaxPicks + 1 {
		many = append(many, pick("A", 200+i))
	}
	for i, c := range []struct {
		s    api.Settings
		inv  api.Inventory
		l    []api.Pick
		want api.Errno
	}{{bad, broken, nil, api.ErrSettings}, {settings(), broken, many, api.ErrInvalid}, {settings(), network(), many, api.ErrLimit}} {
		if l, e := Clusters(c.s, c.inv, c.l); l != nil || e != c.want {
			t.Error(i, e)
		}
		if l, left, e := Find(c.s, c.inv, c.l); l != nil || left != nil || e != c.want {
			t.Error(i, e)
		}
	}
	if l, e := Clusters(settings(), network(), append(many[1:], pick("X", 500))); len(l) != 1 || len(l[0]) != api.MaxPicks || e != api.OK {
		t.Error(e)
	}
}

func TestClusters(t *testing.T) {
	l := []api.Pick{pick("A", 1000), pick("B", 1200), pick("A", 1401), pick("C", 1402), pick("X", 1201), pick("B", 1000), pick("B", 1000)}
	got, e := Clusters(settings(), network(), l)
	want := [][]api.Pick{{pick("A", 1000), pick("B", 1000), pick("B", 1200)}, {pick("A", 1401), pick("C", 1402)}}
	if !slices.EqualFunc(got, want, slices.Equal) || e != api.OK {
		t.Error(got, e)
	}
	if got, e := Clusters(settings(), network(), nil); len(got) != 0 || e != api.OK {
		t.Error(got, e)
	}
}

func TestFind(t *testing.T) {
	first, second := picks(at(7, 12, 3), 1000), picks(at(15, 5, 0), 2000)
	noise := []api.Pick{pick("A", 1600), pick("C", 500)}
	l := slices.Concat(second, noise, []api.Pick{pick("X", 1000), pick("A", 99)}, first)
	events, left, e := Find(settings(), network(), l)
	if len(events) != 2 || !slices.Equal(left, noise) || e != api.OK || !Valid(events) {
		t.Fatal(events, left, e)
	}
	for i, l := range [][]api.Pick{first, second} {
		want, _ := solution.Solve(settings(), network(), l)
		if events[i].Name != slices.MinFunc(l, Compare) || !solution.Same(events[i].Solution, want) {
			t.Error(i, events[i], want)
		}
	}
	slices.Reverse(l)
	again, _, _ := Find(settings(), network(), l)
	if !Same(again, events) {
		t.Error("the order matters")
	}
	if events, left, e := Find(settings(), network(), nil); len(events) != 0 || len(left) != 0 || e != api.OK {
		t.Error(events, left, e)
	}
}

func TestEventsOfClusters(t *testing.T) {
	r := rand.New(rand.NewSource(32))
	for range 20 {
		var l []api.Pick
		for range 3 {
			l = append(l, picks(at(r.Intn(31), r.Intn(31), r.Intn(6)), 200+r.Intn(2000))[r.Intn(2):]...)
		}
		for range r.Intn(5) {
			l = append(l, pick("A", 200+r.Intn(2000)))
		}
		events, left, e := Find(settings(), network(), l)
		if e == api.ErrTries {
			continue
		}
		clusters, _ := Clusters(settings(), network(), l)
		var parts []api.Event
		var rest []api.Pick
		for _, c := range clusters {
			some, more, e := Find(settings(), network(), c)
			if e != api.OK {
				t.Fatal(e)
			}
			parts, rest = append(parts, some...), append(rest, more...)
		}
		slices.SortFunc(parts, func(a, b api.Event) int { return Compare(a.Name, b.Name) })
		if !Same(parts, events) || !slices.Equal(picker.Sort(rest), left) || !Valid(events) {
			t.Fatal(l)
		}
	}
}

func TestTwoPicksOfOneStation(t *testing.T) {
	s := settings()
	s.Association.Least = 2
	a, b := pick("A", 1000), pick("A", 1000)
	b.Amplitude = 7
	events, left, e := Find(s, network(), []api.Pick{a, b})
	if len(events) != 1 || events[0].Name != b || events[0].Solution.Location.Misfit != 0 || len(left) != 0 || e != api.OK {
		t.Error(events, left, e)
	}
}

func TestTries(t *testing.T) {
	s := settings()
	s.Association.Tolerance, s.Association.Least = 0, 2
	s.Association.Region.High = at(30, 30, 30)
	l := []api.Pick{pick("A", 1000), pick("A", 1150)}
	if events, left, e := Find(s, network(), l); events != nil || left != nil || e != api.ErrTries {
		t.Error(events, left, e)
	}
	s.Association.Tolerance, s.Association.Limit, s.Tolerance = 1000, 1000, 0
	if events, _, e := Find(s, network(), l); events != nil || e != api.ErrTries {
		t.Error(events, e)
	}
}
