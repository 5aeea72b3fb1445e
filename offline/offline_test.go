package offline

import (
	"math/rand"
	"slices"
	"testing"

	"seismonet/api"
	"seismonet/archive"
	"seismonet/centre"
	"seismonet/event"
	"seismonet/example"
	"seismonet/reprocess"
)

var (
	here  = api.Position{X: 7, Y: 12, Z: 3}
	there = api.Position{X: 20, Y: 9}
)

func records() []api.Record {
	return slices.Concat(example.Records(here, 10*api.Second+123456, 500), example.Records(there, 20*api.Second, 900), example.Records(there, 30*api.Second, 900)[:1])
}

func TestArchive(t *testing.T) {
	a, e := Archive(records())
	if !archive.Valid(a) || len(archive.All(a)) != 11 || e != api.OK {
		t.Error(a, e)
	}
	if a, e := Archive(nil); !archive.Same(a, api.Archive{}) || e != api.OK {
		t.Error(a, e)
	}
	if a, e := Archive(append(records(), api.Record{})); !archive.Same(a, api.Archive{}) || e != api.ErrInvalid {
		t.Error(a, e)
	}
	var many []api.Record
	for i := range api.MaxRecords + 1 {
		r := records()[0]
		r.Seq = i
		many = append(many, r)
	}
	if a, e := Archive(append(many, api.Record{})); !archive.Same(a, api.Archive{}) || e != api.ErrLimit {
		t.Error(e)
	}
}

func TestRun(t *testing.T) {
	u, inv := example.Setup(), example.Inventory()
	events, left, e := Run(u, inv, records())
	a, _ := Archive(records())
	picks, _ := archive.Picks(a, u.Picking, u.Joining)
	p, _ := reprocess.New(u.Settings, inv, picks)
	if len(events) != 2 || len(left) != 1 || !event.Same(events, reprocess.Events(p)) || !slices.Equal(left, reprocess.Left(p)) || e != api.OK {
		t.Error(events, left, e)
	}
	l := append(records(), records()...)
	slices.Reverse(l)
	if again, rest, e := Run(u, inv, l); !event.Same(again, events) || !slices.Equal(rest, left) || e != api.OK {
		t.Error("the order matters")
	}
	if events, left, e := Run(u, inv, nil); len(events) != 0 || len(left) != 0 || e != api.OK {
		t.Error(events, left, e)
	}
}

func TestRunErrors(t *testing.T) {
	broken := api.Inventory{Channels: make([]api.Channel, 1)}
	bad := example.Setup()
	bad.Joining = -1
	noisy := records()[0]
	noisy.Rate.Num = 4096
	for range api.MaxTriggers + 1 {
		noisy.Samples = append(noisy.Samples, slices.Repeat([]int{1}, 40)...)
		noisy.Samples = append(noisy.Samples, 500, 500, 500, 1)
	}
	var many []api.Record
	for i := range api.MaxRecords + 1 {
		r := records()[0]
		r.Seq = i
		many = append(many, r)
	}
	close := example.Setup()
	close.Settings.Association.Tolerance, close.Settings.Association.Least = 0, 2
	close.Settings.Association.Region.High.Z = 30
	twice := records()[0]
	twice.Samples[300], twice.Samples[301], twice.Samples[302] = 900, 900, 900
	for i, c := range []struct {
		u    api.Setup
		inv  api.Inventory
		l    []api.Record
		want api.Errno
	}{
		{example.Setup(), broken, many, api.ErrInvalid}, {example.Setup(), example.Inventory(), many, api.ErrLimit},
		{bad, broken, []api.Record{{}}, api.ErrSettings}, {example.Setup(), broken, []api.Record{{}}, api.ErrInvalid}, {example.Setup(), example.Inventory(), []api.Record{{}}, api.ErrInvalid},
		{example.Setup(), example.Inventory(), []api.Record{noisy}, api.ErrLimit}, {close, example.Inventory(), []api.Record{twice}, api.ErrTries},
	} {
		if events, left, e := Run(c.u, c.inv, c.l); events != nil || left != nil || e != c.want {
			t.Error(i, e)
		}
	}
}

func TestEqual(t *testing.T) {
	c, _ := centre.New(example.Setup(), example.Inventory())
	r := rand.New(rand.NewSource(40))
	l := records()
	r.Shuffle(len(l), func(i, k int) { l[i], l[k] = l[k], l[i] })
	unequal := 0
	for i, x := range l {
		var e api.Errno
		if c, _, e = centre.Receive(c, x); e != api.OK {
			t.Fatal(e)
		}
		if ok, e := Equal(c); !ok && e == api.OK {
			unequal++
		}
		if i == 6 {
			epoch := example.Inventory().Channels[1].Epochs[0]
			epoch.Position.Y = 2
			c, e = centre.Correct(c, api.Change{Kind: api.ChangeReplace, Source: example.Source(1), Epoch: epoch})
			if e != api.OK {
				t.Fatal(e)
			}
		}
		if c, _, e = centre.Tick(c, i*api.Second); e != api.OK {
			t.Fatal(e)
		}
		if ok, e := Equal(c); !ok || e != api.OK {
			t.Error(i, ok, e)
		}
	}
	if unequal == 0 {
		t.Error("a record changes nothing ahead of the tick")
	}
	c.Setup.Joining = -1
	if ok, e := Equal(c); ok || e != api.ErrSettings {
		t.Error(ok, e)
	}
}

func happen(time, count int) api.Event {
	return api.Event{Name: api.Pick{Time: time}, Solution: api.Solution{Count: count}}
}

func TestDifferences(t *testing.T) {
	pick := func(times ...int) []api.Pick {
		var l []api.Pick
		for _, n := range times {
			l = append(l, api.Pick{Time: n})
		}
		return l
	}
	for i, c := range []struct {
		a, b                []api.Event
		gone, came, changed []api.Pick
	}{
		{nil, nil, nil, nil, nil}, {[]api.Event{happen(1, 1), happen(2, 1)}, []api.Event{happen(2, 1), happen(1, 1)}, nil, nil, nil},
		{[]api.Event{happen(5, 1), happen(3, 1), happen(2, 1), happen(1, 1)}, []api.Event{happen(9, 1), happen(8, 1), happen(1, 2), happen(2, 1), happen(3, 2)}, pick(5), pick(9, 8), pick(3, 1)},
		{[]api.Event{happen(1, 1), happen(1, 2)}, []api.Event{happen(1, 2), happen(1, 1), happen(4, 0), happen(4, 0)}, nil, pick(4, 4), pick(1)},
	} {
		gone, came, changed := Differences(c.a, c.b)
		if !slices.Equal(gone, c.gone) || !slices.Equal(came, c.came) || !slices.Equal(changed, c.changed) {
			t.Error(i, gone, came, changed)
		}
	}
}
