package reprocess

import (
	"math/rand"
	"slices"
	"testing"

	"seismonet/api"
	"seismonet/clone"
	"seismonet/dependency"
	"seismonet/event"
	"seismonet/geometry"
	"seismonet/picker"
)

func at(x, y, z int) api.Position {
	return api.Position{X: x, Y: y, Z: z}
}

func id(station string) api.SourceID {
	return api.SourceID{Network: "GR", Station: station, Channel: "HHZ"}
}

func settings() api.Settings {
	a := api.Association{Region: api.Box{High: at(30, 30, 5)}, Table: api.Table{Step: 1}, Cap: 500, Span: 200, Limit: 30, Least: 3, Tolerance: 20}
	for k := range 80 {
		a.Table.Low, a.Table.High = append(a.Table.Low, 3*k), append(a.Table.High, 3*k+1)
	}
	return api.Settings{Association: a, Tolerance: 15, Scale: api.Scale{Correction: api.Table{Step: 30, Low: []int{0, 100}, High: []int{10, 110}}, Den: 1}}
}

func network() api.Inventory {
	var inv api.Inventory
	for i, p := range []api.Position{at(0, 0, 0), at(20, 0, 0), at(0, 20, 0), at(20, 20, 0)} {
		epoch := api.Epoch{From: 100, To: 50000, Rate: api.Rate{Num: 1, Den: 1}, Position: p}
		inv.Channels = append(inv.Channels, api.Channel{Source: id(string([]byte{byte('A' + i)})), Epochs: []api.Epoch{epoch}})
	}
	return inv
}

// moved returns the network with another place of the station B from a time on.
func moved(from int) api.Inventory {
	inv := network()
	later := inv.Channels[1].Epochs[0]
	inv.Channels[1].Epochs[0].To = from
	later.From = from
	later.Position.Y = 1
	inv.Channels[1].Epochs = append(inv.Channels[1].Epochs, later)
	return inv
}

var broken = api.Inventory{Channels: make([]api.Channel, 1)}

func pick(station string, time int) api.Pick {
	return api.Pick{Source: id(station), Time: time, Early: time - 2, Late: time + 2, Amplitude: 100}
}

func picks(x api.Position, time int) []api.Pick {
	var l []api.Pick
	for _, c := range network().Channels {
		l = append(l, pick(c.Source.Station, time+3*geometry.Floor(geometry.Square(x, c.Epochs[0].Position))))
	}
	return l
}

func all() []api.Pick {
	return slices.Concat(picks(at(7, 12, 3), 1000), picks(at(15, 5, 0), 2000), []api.Pick{pick("A", 1600), pick("X", 1050)})
}

func TestNew(t *testing.T) {
	p, e := New(settings(), network(), all())
	events, left, _ := event.Find(settings(), network(), all())
	if e != api.OK || len(p.Batches) != 3 || !event.Same(Events(p), events) || !slices.Equal(Left(p), left) || !slices.Equal(Picks(p), picker.Sort(all())) || len(events) != 2 {
		t.Fatal(p, e)
	}
	batches, _ := dependency.Batches(200, all())
	for i, b := range p.Batches {
		events, left, _ := event.Find(settings(), network(), batches[i])
		if !slices.Equal(b.Picks, batches[i]) || !event.Same(b.Events, events) || !slices.Equal(b.Left, left) {
			t.Error(i, b)
		}
	}
	bad := settings()
	bad.Tolerance = -1
	close := settings()
	close.Association.Tolerance, close.Association.Least = 0, 2
	close.Association.Region.High = at(30, 30, 30)
	var many []api.Pick
	for i := range api.MaxPicks + 1 {
		many = append(many, pick("A", 3000+i))
	}
	for i, c := range []struct {
		s    api.Settings
		inv  api.Inventory
		l    []api.Pick
		want api.Errno
	}{
		{bad, broken, []api.Pick{{}}, api.ErrSettings}, {settings(), broken, nil, api.ErrInvalid}, {settings(), network(), []api.Pick{{}}, api.ErrInvalid}, {close, network(), append(many, pick("A", 1000), pick("A", 1150)), api.ErrTries},
		{settings(), network(), many, api.ErrLimit}, {settings(), network(), nil, api.OK},
	} {
		if p, e := New(c.s, c.inv, c.l); e != c.want || e != api.OK && !Same(p, api.Progress{}) {
			t.Error(i, e)
		}
		start, _ := New(c.s, network(), nil)
		if c.want == api.ErrSettings {
			continue
		}
		if p, l, e := Update(start, c.inv, c.l); e != c.want || e != api.OK && (!Same(p, api.Progress{}) || l != nil) {
			t.Error(i, e)
		}
	}
}

func TestUpdate(t *testing.T) {
	p, _ := New(settings(), network(), all())
	far := append(all(), pick("B", 9000))
	for i, c := range []struct {
		inv  api.Inventory
		l    []api.Pick
		want []int
	}{
		{network(), all(), nil}, {network(), far, []int{3}}, {moved(1500), all(), []int{2}}, {moved(500), all(), []int{0, 2}}, {moved(5000), all(), nil}, {network(), all()[1:], []int{0}}, {network(), nil, nil}, {moved(1500), far, []int{2, 3}},
	} {
		before := clone.Progress(p)
		got, computed, e := Update(p, c.inv, c.l)
		want, _ := New(settings(), c.inv, c.l)
		if !Same(got, want) || !slices.Equal(computed, c.want) || e != api.OK {
			t.Error(i, computed, e)
		}
		for _, b := range got.Batches {
			b.Picks[0].Time = 77
			for _, x := range b.Events {
				x.Solution.Picks[0].Time = 77
			}
		}
		if !Same(p, before) {
			t.Fatal("memory is shared", i)
		}
	}
}

// What Update leaves alone is not asked for errors again, and results do not depend on the way to them.
func TestRandomUpdates(t *testing.T) {
	r := rand.New(rand.NewSource(37))
	p, _ := New(settings(), network(), nil)
	for range 15 {
		var l []api.Pick
		for _, x := range all() {
			if r.Intn(5) > 0 {
				l = append(l, x)
			}
		}
		inv := network()
		if r.Intn(2) == 0 {
			inv = moved(500 + r.Intn(2000))
		}
		want, e := New(settings(), inv, l)
		if e != api.OK {
			continue
		}
		next, _, e := Update(p, inv, l)
		if e != api.OK || !Same(next, want) {
			t.Fatal(e)
		}
		p = next
	}
}

func TestSame(t *testing.T) {
	p, _ := New(settings(), network(), all())
	for i, f := range []func(p *api.Progress){
		func(p *api.Progress) { p.Settings.Association.Table.Low[0] = 9 }, func(p *api.Progress) { p.Settings.Association.Table.High[0] = 9 }, func(p *api.Progress) { p.Settings.Association.Table.Step = 9 },
		func(p *api.Progress) { p.Settings.Association.Region.High.X = 9 }, func(p *api.Progress) { p.Settings.Association.Cap = 9 }, func(p *api.Progress) { p.Settings.Association.Tolerance = 9 }, func(p *api.Progress) { p.Settings.Association.Span = 9 },
		func(p *api.Progress) { p.Settings.Association.Limit = 9 }, func(p *api.Progress) { p.Settings.Association.Least = 9 }, func(p *api.Progress) { p.Settings.Tolerance = 9 }, func(p *api.Progress) { p.Settings.Scale.Num = 9 }, func(p *api.Progress) { p.Settings.Scale.Den = 9 },
		func(p *api.Progress) { p.Settings.Scale.Correction.Low[0] = 9 }, func(p *api.Progress) { p.Inventory.Channels[0].Epochs[0].From = 9 }, func(p *api.Progress) { p.Batches[0].Picks[0].Time = 9 }, func(p *api.Progress) { p.Batches[1].Left[0].Time = 9 },
		func(p *api.Progress) { p.Batches[0].Events[0].Solution.Count = 9 }, func(p *api.Progress) { p.Batches = p.Batches[1:] },
	} {
		x := clone.Progress(p)
		f(&x)
		if Same(x, p) || !Same(x, clone.Progress(x)) {
			t.Error(i)
		}
	}
}
