package revision

import (
	"math/rand"
	"reflect"
	"slices"
	"testing"

	"seismonet/api"
	"seismonet/clone"
	"seismonet/inventory"
	"seismonet/source"
	"seismonet/span"
)

func id(station string) api.SourceID {
	return api.SourceID{Network: "GR", Station: station, Channel: "HHZ"}
}

func epoch(from, to, x int) api.Epoch {
	stages := []api.Stage{{Kind: api.StageFilter, Taps: []int{1, 2}, Factor: 1}}
	return api.Epoch{From: from, To: to, Rate: api.Rate{Num: 1, Den: 1}, Position: api.Position{X: x}, Response: api.Response{Stages: stages}}
}

func channel(station string, epochs ...api.Epoch) api.Channel {
	return api.Channel{Source: id(station), Epochs: epochs}
}

func inv(l ...api.Channel) api.Inventory {
	return api.Inventory{Channels: l}
}

func add(station string, e api.Epoch) api.Change {
	return api.Change{Kind: api.ChangeAdd, Source: id(station), From: e.From, Epoch: e}
}

func remove(station string, from int) api.Change {
	return api.Change{Kind: api.ChangeRemove, Source: id(station), From: from}
}

func replace(station string, from int, e api.Epoch) api.Change {
	return api.Change{Kind: api.ChangeReplace, Source: id(station), From: from, Epoch: e}
}

func example() api.Inventory {
	return inv(channel("B", epoch(10, 20, 1), epoch(30, 40, 2)), channel("D", epoch(0, 100, 3)))
}

func full() (channels, epochs api.Inventory) {
	for i := range api.MaxChannels {
		channels.Channels = append(channels.Channels, channel(string([]byte{'A', byte('A' + i/26), byte('A' + i%26)}), epoch(0, 1, 0)))
	}
	var l []api.Epoch
	for i := range api.MaxEpochs {
		l = append(l, epoch(10*i, 10*i+10, 0))
	}
	return channels, inv(channel("B", l...))
}

func TestApply(t *testing.T) {
	for i, c := range []struct {
		c    api.Change
		want api.Inventory
	}{
		{add("B", epoch(20, 30, 9)), inv(channel("B", epoch(10, 20, 1), epoch(20, 30, 9), epoch(30, 40, 2)), example().Channels[1])},
		{add("B", epoch(0, 5, 9)), inv(channel("B", epoch(0, 5, 9), epoch(10, 20, 1), epoch(30, 40, 2)), example().Channels[1])},
		{add("B", epoch(50, 55, 9)), inv(channel("B", epoch(10, 20, 1), epoch(30, 40, 2), epoch(50, 55, 9)), example().Channels[1])},
		{add("A", epoch(5, 6, 9)), inv(channel("A", epoch(5, 6, 9)), example().Channels[0], example().Channels[1])},
		{add("C", epoch(5, 6, 9)), inv(example().Channels[0], channel("C", epoch(5, 6, 9)), example().Channels[1])},
		{remove("B", 30), inv(channel("B", epoch(10, 20, 1)), example().Channels[1])},
		{remove("D", 0), inv(example().Channels[0])},
		{replace("B", 30, epoch(20, 50, 7)), inv(channel("B", epoch(10, 20, 1), epoch(20, 50, 7)), example().Channels[1])},
		{replace("B", 30, epoch(1, 2, 7)), inv(channel("B", epoch(1, 2, 7), epoch(10, 20, 1)), example().Channels[1])},
	} {
		got, e := Apply(example(), c.c)
		if !inventory.Same(got, c.want) || e != api.OK || !inventory.Valid(got) {
			t.Error(i, got, e)
		}
		back, e := Inverse(example(), c.c)
		if again, f := Apply(got, back); e != api.OK || f != api.OK || !inventory.Same(again, example()) {
			t.Error(i, back, e, f)
		}
	}
	channels, epochs := full()
	if got, e := Apply(epochs, replace("B", 10, epoch(10, 20, 5))); len(got.Channels[0].Epochs) != 32 || e != api.OK {
		t.Error(e)
	}
	if got, e := Apply(channels, remove("AAB", 0)); len(got.Channels) != 127 || e != api.OK {
		t.Error(e)
	}
}

func TestApplyErrors(t *testing.T) {
	channels, epochs := full()
	broken := example()
	broken.Channels[0].Epochs = nil
	change := func(c api.Change, f func(c *api.Change)) api.Change {
		f(&c)
		return c
	}
	for i, c := range []struct {
		inv  api.Inventory
		c    api.Change
		want api.Errno
	}{
		{broken, remove("X", 5), api.ErrInvalid},
		{example(), change(add("B", epoch(20, 30, 9)), func(c *api.Change) { c.Kind = 3 }), api.ErrInvalid},
		{example(), change(add("B", epoch(20, 30, 9)), func(c *api.Change) { c.Kind = -1 }), api.ErrInvalid},
		{example(), change(remove("B", 10), func(c *api.Change) { c.Kind = 3 }), api.ErrInvalid},
		{example(), add("b", epoch(20, 30, 9)), api.ErrInvalid},
		{example(), add("B", epoch(30, 20, 9)), api.ErrInvalid},
		{example(), change(add("B", epoch(20, 30, 9)), func(c *api.Change) { c.From = 21 }), api.ErrInvalid},
		{example(), replace("B", 10, epoch(5, 5, 9)), api.ErrInvalid},
		{example(), change(remove("B", 10), func(c *api.Change) { c.Epoch.Response.Stages = make([]api.Stage, 1) }), api.ErrInvalid},
		{example(), change(remove("B", 10), func(c *api.Change) { c.Epoch.To = 1 }), api.ErrInvalid},
		{example(), remove("B", 11), api.ErrNotFound},
		{example(), remove("C", 10), api.ErrNotFound},
		{example(), replace("B", 15, epoch(0, 90, 9)), api.ErrNotFound},
		{example(), add("B", epoch(19, 21, 9)), api.ErrConflict},
		{example(), add("B", epoch(0, 90, 9)), api.ErrConflict},
		{example(), add("B", epoch(12, 13, 9)), api.ErrConflict},
		{example(), replace("B", 10, epoch(10, 31, 9)), api.ErrConflict},
		{epochs, add("B", epoch(5, 9, 9)), api.ErrConflict},
		{epochs, add("B", epoch(500, 501, 9)), api.ErrLimit},
		{channels, add("B", epoch(5, 9, 9)), api.ErrLimit},
	} {
		if got, e := Apply(c.inv, c.c); !inventory.Same(got, api.Inventory{}) || e != c.want {
			t.Error(i, got, e)
		}
		if got, e := Inverse(c.inv, c.c); !reflect.DeepEqual(got, api.Change{}) || e != c.want {
			t.Error(i, got, e)
		}
	}
}

func TestHistory(t *testing.T) {
	h := api.History{Base: example()}
	changes := []api.Change{add("A", epoch(1, 2, 5)), remove("B", 10), replace("D", 0, epoch(0, 50, 4))}
	versions := []api.Inventory{example()}
	for _, c := range changes {
		before := clone.History(h)
		next, e := Append(h, c)
		if e != api.OK || !Valid(next) || !reflect.DeepEqual(h, before) {
			t.Fatal(e)
		}
		v, _ := Apply(versions[len(versions)-1], c)
		versions = append(versions, v)
		h = next
	}
	for n, want := range versions {
		if got, e := Version(h, n); !inventory.Same(got, want) || e != api.OK {
			t.Error(n, got, e)
		}
		for m, other := range versions {
			if got, e := Between(h, n, m); !reflect.DeepEqual(got, Affected(want, other)) || e != api.OK {
				t.Error(n, m, got, e)
			}
		}
	}
	if got, e := Append(h, remove("B", 10)); !reflect.DeepEqual(got, api.History{}) || e != api.ErrNotFound {
		t.Error(e)
	}
	for _, n := range []int{-1, 4} {
		if got, e := Version(h, n); !inventory.Same(got, api.Inventory{}) || e != api.ErrRange {
			t.Error(n, e)
		}
		if _, e := Between(h, n, 0); e != api.ErrRange {
			t.Error(n, e)
		}
		if _, e := Between(h, 0, n); e != api.ErrRange {
			t.Error(n, e)
		}
	}
	shared, _ := Version(h, 0)
	shared.Channels[0].Epochs[0].Response.Stages[0].Taps[0] = 99
	if !inventory.Same(h.Base, example()) {
		t.Error("memory is shared")
	}
}

func TestInvalidHistories(t *testing.T) {
	broken := example()
	broken.Channels[0].Epochs = nil
	var many []api.Change
	for range api.MaxChanges / 2 {
		many = append(many, add("A", epoch(1, 2, 5)), remove("A", 1))
	}
	limit := api.History{Base: example(), Changes: many}
	if !Valid(limit) {
		t.Error("limit")
	}
	if _, e := Append(limit, remove("X", 0)); e != api.ErrLimit {
		t.Error(e)
	}
	for i, h := range []api.History{{Base: broken}, {Base: example(), Changes: []api.Change{remove("B", 11)}}, {Base: example(), Changes: append(many, add("A", epoch(1, 2, 5)))}} {
		if Valid(h) {
			t.Error(i)
		}
		if _, e := Version(h, -1); e != api.ErrInvalid {
			t.Error(i, e)
		}
		if got, e := Append(h, remove("X", 0)); !reflect.DeepEqual(got, api.History{}) || e != api.ErrInvalid {
			t.Error(i, e)
		}
		if got, e := Between(h, -1, 0); got != nil || e != api.ErrInvalid {
			t.Error(i, e)
		}
	}
}

func random(r *rand.Rand) api.Inventory {
	var x api.Inventory
	for _, station := range []string{"A", "B", "C"} {
		var l []api.Epoch
		for at := r.Intn(5); at < 30; {
			to := at + 1 + r.Intn(9)
			l = append(l, epoch(at, to, r.Intn(2)))
			if r.Intn(4) == 0 {
				l[len(l)-1].Rate.Num = 2
			}
			if r.Intn(4) == 0 {
				l[len(l)-1].Response.Stages = nil
			}
			at = to + r.Intn(3)
		}
		if r.Intn(3) > 0 {
			x.Channels = append(x.Channels, channel(station, l...))
		}
	}
	return x
}

func TestAffected(t *testing.T) {
	r := rand.New(rand.NewSource(14))
	for range 500 {
		a, b := random(r), random(r)
		got := Affected(a, b)
		if !reflect.DeepEqual(got, Affected(b, a)) || len(Affected(a, a)) != 0 {
			t.Fatal(a, b)
		}
		for i, x := range got {
			if !span.Valid(x.Spans) || len(x.Spans) == 0 || i > 0 && source.Compare(got[i-1].Source, x.Source) >= 0 {
				t.Fatal(got)
			}
		}
		for _, station := range []string{"A", "B", "C", "D"} {
			for at := range 45 {
				x, e := inventory.At(a, id(station), at)
				y, f := inventory.At(b, id(station), at)
				x.From, x.To, y.From, y.To = 0, 0, 0, 0
				if Touches(got, id(station), at, at+1) != (e != f || !inventory.SameEpoch(x, y)) {
					t.Fatal(a, b, station, at)
				}
			}
		}
	}
	broken := example()
	broken.Channels[0].Epochs = nil
	if Affected(broken, example()) != nil || Affected(example(), broken) != nil {
		t.Error("invalid inventories")
	}
	longer, _ := Apply(example(), replace("B", 30, epoch(30, 45, 2)))
	if got := Affected(example(), longer); !reflect.DeepEqual(got, []api.Affected{{Source: id("B"), Spans: []api.Span{{From: 40, To: 45}}}}) {
		t.Error(got)
	}
}

func TestTouches(t *testing.T) {
	l := []api.Affected{{Source: id("A"), Spans: []api.Span{{From: 5, To: 7}}}, {Source: id("A"), Spans: []api.Span{{From: 9, To: 9}, {From: 12, To: 13}}}}
	for _, c := range []struct {
		station  string
		from, to int
		want     bool
	}{{"A", 6, 7, true}, {"A", 7, 9, false}, {"A", 0, 6, true}, {"A", 9, 12, false}, {"A", 9, 13, true}, {"B", 0, 99, false}, {"A", 6, 6, false}, {"A", 6, 5, false}} {
		if Touches(l, id(c.station), c.from, c.to) != c.want {
			t.Error(c)
		}
	}
	if !slices.Equal(l[0].Spans, []api.Span{{From: 5, To: 7}}) {
		t.Error("changed")
	}
}
