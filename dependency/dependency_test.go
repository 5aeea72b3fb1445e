package dependency

import (
	"math/rand"
	"reflect"
	"slices"
	"testing"

	"seismonet/api"
	"seismonet/picker"
	"seismonet/revision"
	"seismonet/span"
)

func id(station string) api.SourceID {
	return api.SourceID{Network: "GR", Station: station, Channel: "HHZ"}
}

func pick(station string, early int) api.Pick {
	return api.Pick{Source: id(station), Early: early, Time: early + 1, Late: early + 2}
}

func epoch(from, to, x int) api.Epoch {
	stages := []api.Stage{{Kind: api.StageGain, Num: [3]int{1 + x}, Den: [3]int{1}}}
	return api.Epoch{From: from, To: to, Rate: api.Rate{Num: 1, Den: 1}, Response: api.Response{Stages: stages}}
}

func network(l ...api.Channel) api.Inventory {
	return api.Inventory{Channels: l}
}

func channel(station string, l ...api.Epoch) api.Channel {
	return api.Channel{Source: id(station), Epochs: l}
}

var broken = api.Inventory{Channels: make([]api.Channel, 1)}

func TestBatches(t *testing.T) {
	late := pick("A", 16)
	late.Time, late.Late = 100, 100
	l := []api.Pick{pick("A", 40), late, pick("B", 0), pick("A", 8), pick("B", 0), pick("A", 0)}
	got, e := Batches(10, l)
	want := [][]api.Pick{{pick("A", 0), pick("A", 8), late, pick("B", 0)}, {pick("A", 40)}}
	if !slices.EqualFunc(got, want, slices.Equal) || e != api.OK {
		t.Error(got, e)
	}
	if got, _ := Batches(24, l); len(got) != 1 {
		t.Error(got)
	}
	if got, _ := Batches(0, l); len(got) != 4 {
		t.Error(got)
	}
	if got, e := Batches(0, nil); len(got) != 0 || e != api.OK {
		t.Error(got, e)
	}
	for _, gap := range []int{-1, api.MaxTravel + 1} {
		if got, e := Batches(gap, []api.Pick{{}}); got != nil || e != api.ErrRange {
			t.Error(gap, e)
		}
		if got, e := Stale(gap, []api.Pick{{}}, nil, broken, broken); got != nil || e != api.ErrRange {
			t.Error(gap, e)
		}
	}
	if got, e := Batches(api.MaxTravel, []api.Pick{pick("A", 0), {}}); got != nil || e != api.ErrInvalid {
		t.Error(e)
	}
}

func TestChanged(t *testing.T) {
	a := network(channel("A", epoch(0, 100, 0)))
	moved := network(channel("A", epoch(0, 100, 0)))
	moved.Channels[0].Epochs[0].Position.Y = 1
	faster := network(channel("A", epoch(0, 100, 0)))
	faster.Channels[0].Epochs[0].Rate.Num = 2
	for i, c := range []struct {
		b    api.Inventory
		time int
		want bool
	}{
		{a, 50, false}, {moved, 50, true}, {moved, 99, true}, {moved, 100, false}, {faster, 50, false}, {network(channel("A", epoch(0, 100, 1))), 50, true}, {network(channel("A", epoch(0, 50, 0))), 50, true},
		{network(channel("A", epoch(0, 50, 0))), 49, false}, {network(channel("B", epoch(0, 100, 0))), 50, true}, {broken, 50, true}, {broken, 100, false}, {network(channel("A", epoch(0, 50, 0), epoch(50, 100, 0))), 60, false},
	} {
		p := api.Pick{Source: id("A"), Time: c.time}
		if Changed(a, c.b, p) != c.want || Changed(c.b, a, p) != c.want {
			t.Error(i)
		}
	}
	plain := network(channel("A", api.Epoch{To: 100, Rate: api.Rate{Num: 1, Den: 1}}))
	if !Changed(plain, network(), pick("A", 5)) || !Changed(network(), plain, pick("A", 5)) {
		t.Error("an epoch at the origin without stages")
	}
	if Changed(broken, broken, pick("A", 5)) {
		t.Error("invalid inventories have no epochs")
	}
}

func TestStale(t *testing.T) {
	a := network(channel("A", epoch(0, 1000, 0)), channel("B", epoch(0, 1000, 0)))
	b := network(channel("A", epoch(0, 1000, 0)), channel("B", epoch(0, 200, 0), epoch(200, 1000, 5)))
	old := []api.Pick{pick("A", 10), pick("B", 12), pick("A", 100), pick("B", 300), pick("A", 305)}
	for i, c := range []struct {
		old, l []api.Pick
		a, b   api.Inventory
		want   []int
		e      api.Errno
	}{
		{old, old, a, a, nil, api.OK}, {old, old, a, b, []int{2}, api.OK}, {nil, old, a, a, []int{0, 1, 2}, api.OK}, {old, nil, a, b, nil, api.OK}, {old, append(slices.Clone(old), pick("B", 500)), a, a, []int{3}, api.OK},
		{old, old[1:], a, a, []int{0}, api.OK}, {old, append(slices.Clone(old), pick("B", 95)), a, a, []int{1}, api.OK}, {old, append(slices.Clone(old), pick("B", 0)), a, b, []int{0, 2}, api.OK}, {append(slices.Clone(old), pick("B", 20), pick("B", 30), pick("B", 95)), old, a, a, []int{0, 1}, api.OK},
		{[]api.Pick{{}}, nil, a, a, nil, api.ErrInvalid}, {nil, []api.Pick{{}}, a, a, nil, api.ErrInvalid}, {nil, nil, broken, a, nil, api.ErrInvalid}, {nil, nil, a, broken, nil, api.ErrInvalid},
	} {
		if got, e := Stale(10, c.old, c.l, c.a, c.b); !slices.Equal(got, c.want) || e != c.e {
			t.Error(i, got, e)
		}
	}
}

func TestDepends(t *testing.T) {
	got := Depends([]api.Pick{pick("B", 5), pick("A", 8), {}, pick("A", 7), pick("A", 2), pick("A", 7)})
	want := []api.Affected{{Source: id("A"), Spans: []api.Span{{From: 3, To: 4}, {From: 8, To: 10}}}, {Source: id("B"), Spans: []api.Span{{From: 6, To: 7}}}}
	if !reflect.DeepEqual(got, want) || len(Depends(nil)) != 0 {
		t.Error(got)
	}
}

func TestAffectedPicksAlone(t *testing.T) {
	r := rand.New(rand.NewSource(36))
	random := func() api.Inventory {
		var inv api.Inventory
		for _, station := range []string{"A", "B"} {
			at := r.Intn(20)
			inv.Channels = append(inv.Channels, channel(station, epoch(at, at+20, r.Intn(2)), epoch(at+20+r.Intn(3), 60+r.Intn(10), r.Intn(2))))
		}
		return inv
	}
	for range 300 {
		a, b := random(), random()
		var l []api.Pick
		for range 20 {
			l = append(l, pick([]string{"A", "B"}[r.Intn(2)], r.Intn(80)))
		}
		affected := revision.Affected(a, b)
		for _, p := range l {
			touched := revision.Touches(affected, p.Source, p.Time, p.Time+1)
			if Changed(a, b, p) != touched {
				t.Fatal(a, b, p)
			}
			depends := Depends([]api.Pick{p})
			if len(depends) != 1 || !span.Has(depends[0].Spans, p.Time) {
				t.Fatal(depends)
			}
		}
		batches, _ := Batches(3, l)
		stale, _ := Stale(3, l, l, a, b)
		for i, batch := range batches {
			want := slices.ContainsFunc(batch, func(p api.Pick) bool { return Changed(a, b, p) })
			if slices.Contains(stale, i) != want || !slices.Equal(batch, picker.Sort(batch)) {
				t.Fatal(i, batch)
			}
		}
	}
}
