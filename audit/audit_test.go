package audit

import (
	"slices"
	"testing"

	"seismonet/api"
	"seismonet/centre"
	"seismonet/clone"
	"seismonet/example"
	"seismonet/proof"
	"seismonet/reprocess"
	"seismonet/script"
	"seismonet/solution"
)

var (
	here  = api.Position{X: 7, Y: 12, Z: 3}
	there = api.Position{X: 20, Y: 9}
)

func story() []api.Op {
	var l []api.Op
	for _, r := range example.Records(here, 10*api.Second+123456, 500) {
		l = append(l, api.Op{Kind: api.OpRecord, Record: r}, api.Op{Kind: api.OpTick, Now: 12 * api.Second})
	}
	l = append(l, api.Op{Kind: api.OpPlace, Source: example.Source(1), Position: api.Position{X: 28}}, api.Op{Kind: api.OpTick, Now: 18 * api.Second})
	for _, r := range example.Records(there, 30*api.Second, 4000) {
		l = append(l, api.Op{Kind: api.OpRecord, Record: r})
	}
	return append(l, api.Op{Kind: api.OpTick, Now: 34 * api.Second}, api.Op{Kind: api.OpDelete, ID: 0, By: "bob"}, api.Op{Kind: api.OpRecord, Record: example.Records(there, 50*api.Second, 4000)[0]}, api.Op{Kind: api.OpTick, Now: 54 * api.Second})
}

func eventful(t *testing.T) api.Centre {
	t.Helper()
	c, e := centre.New(example.Setup(), example.Inventory())
	if e != api.OK {
		t.Fatal(e)
	}
	for i, o := range story() {
		if c, _, e = script.Apply(c, o); e != api.OK {
			t.Fatal(i, e)
		}
		if l := Check(c); len(l) != 0 {
			t.Fatal(i, l)
		}
	}
	return c
}

func TestNewCentre(t *testing.T) {
	c, _ := centre.New(example.Setup(), example.Inventory())
	if l := Check(c); len(l) != 0 {
		t.Error(l)
	}
	if l := Report(c); !slices.Equal(l, []string{"records 0", "picks 0", "events 0", "entries 0", "alerts 0", "bulletins 0"}) {
		t.Error(l)
	}
}

func TestReport(t *testing.T) {
	c := eventful(t)
	want := []string{"records 11", "picks 11", "events 2", " XX.S4..HHZ 10390000 picks 5 misfit 40000", " XX.S4..HHZ 30240000 picks 5 misfit 2000", "entries 2", "alerts 1", "bulletins 4"}
	got := Report(c)
	events := reprocess.Events(c.Progress)
	for i, x := range events {
		want[3+i] = " XX." + x.Name.Source.Station + "..HHZ " + number(x.Name.Time) + " picks " + number(len(x.Solution.Picks)) + " misfit " + number(x.Solution.Location.Misfit)
	}
	want[7] = "bulletins " + number(len(c.Bulletins))
	if !slices.Equal(got, want) || len(events) != 2 || len(c.Bulletins) < 3 {
		t.Error(got, want)
	}
}

func number(n int) string {
	if n < 10 {
		return string([]byte{byte('0' + n)})
	}
	return number(n/10) + number(n%10)
}

func TestCheckFindsChanges(t *testing.T) {
	c := eventful(t)
	event := func(c *api.Centre) *api.Solution { return &c.Progress.Batches[0].Events[0].Solution }
	last := len(c.Bulletins) - 1
	for i, x := range []struct {
		f    func(c *api.Centre)
		want []int
	}{
		{func(c *api.Centre) { c.Setup.Joining = -1 }, []int{api.BadSetup}},
		{func(c *api.Centre) { c.Setup.Settings.Tolerance = -1 }, []int{api.BadSetup, api.BadLocation}},
		{func(c *api.Centre) { c.History.Changes[0].From = 5 }, []int{api.BadHistory}},
		{func(c *api.Centre) { c.History.Base.Channels[0].Source.Network = "" }, []int{api.BadHistory}},
		{func(c *api.Centre) { slices.Reverse(c.Archive.Stores) }, []int{api.BadArchive}},
		{func(c *api.Centre) { slices.Reverse(c.Progress.Batches) }, []int{api.BadBatches}},
		{func(c *api.Centre) { slices.Reverse(c.Progress.Batches[0].Picks) }, []int{api.BadBatches}},
		{func(c *api.Centre) { c.Progress.Batches = append(c.Progress.Batches, api.Batch{}) }, []int{api.BadBatches}},
		{func(c *api.Centre) { c.Setup.Settings.Association.Span = api.MaxTravel }, []int{api.BadBatches}},
		{func(c *api.Centre) { c.Setup.Settings.Association.Span = -1 }, []int{api.BadSetup, api.BadBatches, api.BadLocation}},
		{func(c *api.Centre) { c.Progress.Batches[0].Picks[0].Polarity = 7 }, []int{api.BadBatches, api.BadEvents}},
		{func(c *api.Centre) { c.Progress.Batches[0].Events[0].Name.Time++ }, []int{api.BadEvents}},
		{func(c *api.Centre) { slices.Reverse(event(c).Picks) }, []int{api.BadEvents}},
		{func(c *api.Centre) {
			b := c.Progress.Batches
			b[0].Events, b[1].Events = b[1].Events, b[0].Events
		}, []int{api.BadEvents}},
		{func(c *api.Centre) { event(c).Location.Misfit-- }, []int{api.BadLocation}},
		{func(c *api.Centre) { event(c).Location.Time++ }, []int{api.BadLocation}},
		{func(c *api.Centre) { event(c).Location.Point.X = 31 }, []int{api.BadLocation}},
		{func(c *api.Centre) { event(c).Location.Lower = event(c).Location.Misfit + 1 }, []int{api.BadLocation}},
		{func(c *api.Centre) { event(c).Location.Lower = event(c).Location.Misfit }, nil},
		{func(c *api.Centre) { event(c).Location.Lower = event(c).Location.Misfit - 50001 }, []int{api.BadLocation}},
		{func(c *api.Centre) { event(c).Location.Lower = event(c).Location.Misfit - 50000 }, nil},
		{func(c *api.Centre) { event(c).Location.Lower = -1 << 63 }, []int{api.BadLocation}},
		{func(c *api.Centre) { c.Progress.Inventory.Channels = nil }, []int{api.BadLocation}},
		{func(c *api.Centre) { c.Catalogue.Entries[0].Versions[0].Kind = api.Vanished }, []int{api.BadCatalogue}},
		{func(c *api.Centre) { c.Alerts[0].At = -1 }, []int{api.BadAlerts}},
		{func(c *api.Centre) { c.Alerts[1].Level++ }, []int{api.BadFeed}},
		{func(c *api.Centre) { c.Alerts[1].At++ }, []int{api.BadFeed}},
		{func(c *api.Centre) { c.Alerts[1].Event.Solution.Count++ }, []int{api.BadFeed}},
		{func(c *api.Centre) { c.Alerts[1].ID++ }, []int{api.BadFeed}},
		{func(c *api.Centre) { c.Alerts[1].Withdrawn = true }, []int{api.BadFeed}},
		{func(c *api.Centre) { c.Alerts[0].Withdrawn = false }, []int{api.BadFeed}},
		{func(c *api.Centre) { c.Bulletins[last].Number++ }, []int{api.BadBulletins}},
		{func(c *api.Centre) { c.Bulletins[0].At = 60 * api.Second }, []int{api.BadBulletins}},
		{func(c *api.Centre) { c.Bulletins = nil }, []int{api.BadFeed}},
	} {
		changed := clone.Centre(c)
		x.f(&changed)
		if got := Check(changed); !slices.Equal(got, x.want) {
			t.Error(i, got, x.want)
		}
	}
}

func TestAnyCentre(t *testing.T) {
	nothing := api.Centre{}
	if got := Check(nothing); !slices.Equal(got, []int{api.BadSetup}) {
		t.Error(got)
	}
	odd := api.Centre{
		History: api.History{Changes: make([]api.Change, 1)}, Archive: api.Archive{Stores: make([]api.Store, 1)}, Catalogue: api.Catalogue{Entries: make([]api.Entry, 1)},
		Progress: api.Progress{Batches: []api.Batch{{Events: make([]api.Event, 1)}}}, Alerts: make([]api.Alert, 2), Bulletins: make([]api.Bulletin, 1),
	}
	if got := Check(odd); !slices.Equal(got, []int{1, 2, 3, 4, 5, 6, 7, 8, 9, 10}) {
		t.Error(got)
	}
	if len(Report(odd)) != 7 {
		t.Error(Report(odd))
	}
	if _, e := Certify(odd, api.Pick{}); e != api.ErrSettings {
		t.Error(e)
	}
}

func TestCertificates(t *testing.T) {
	c := eventful(t)
	for _, x := range reprocess.Events(c.Progress) {
		certificate, e := Certify(c, x.Name)
		p, _ := solution.Problem(c.Setup.Settings, c.Progress.Inventory, x.Solution.Picks)
		want, _ := proof.Make(p, x.Solution.Location, c.Setup.Settings.Tolerance)
		if !slices.Equal(certificate, want) || len(want) == 0 || e != api.OK || Accept(c, x.Name, certificate) != api.OK {
			t.Error(certificate, e)
		}
		if e := Accept(c, x.Name, append(certificate, 0)); e != api.ErrProof {
			t.Error(e)
		}
		if e := Accept(c, x.Name, make([]int, 2*api.MaxBoxes+2)); e != api.ErrLimit {
			t.Error(e)
		}
	}
	name := reprocess.Events(c.Progress)[0].Name
	wrong := clone.Centre(c)
	wrong.Progress.Batches[0].Events[0].Solution.Location.Time++
	empty := clone.Centre(c)
	empty.Progress.Inventory.Channels = nil
	for i, x := range []struct {
		c    api.Centre
		name api.Pick
		want api.Errno
	}{{c, api.Pick{}, api.ErrNotFound}, {wrong, name, api.ErrState}, {empty, name, api.ErrNone}} {
		if l, e := Certify(x.c, x.name); l != nil || e != x.want {
			t.Error(i, l, e)
		}
		if e := Accept(x.c, x.name, nil); e != x.want {
			t.Error(i, e)
		}
	}
}
