package clone

import (
	"reflect"
	"testing"

	"seismonet/api"
)

func inventory() api.Inventory {
	stages := []api.Stage{{Kind: 2, Taps: []int{1, 2}}, {Kind: 1}}
	return api.Inventory{Channels: []api.Channel{{Epochs: []api.Epoch{{From: 1, To: 2, Response: api.Response{Stages: stages}}}}}}
}

func TestHistory(t *testing.T) {
	h := api.History{Base: inventory(), Changes: []api.Change{{From: 3, Epoch: inventory().Channels[0].Epochs[0]}}}
	c := History(h)
	if !reflect.DeepEqual(c, h) {
		t.Error(c)
	}
	c.Base.Channels[0].Epochs[0].Response.Stages[0].Taps[0] = 9
	c.Base.Channels[0].Epochs[0].Response.Stages[1].Kind = 9
	c.Base.Channels[0].Epochs[0].From = 9
	c.Base.Channels[0].Source.Network = "X"
	c.Changes[0].Epoch.Response.Stages[0].Taps[0] = 9
	c.Changes[0].From = 9
	if !reflect.DeepEqual(h.Base, inventory()) || h.Changes[0].From != 3 || h.Changes[0].Epoch.Response.Stages[0].Taps[0] != 1 {
		t.Error("memory is shared", h)
	}
}

func event() api.Event {
	return api.Event{Name: api.Pick{Time: 5}, Solution: api.Solution{Picks: []api.Pick{{Time: 5}, {Time: 6}}, Count: 2}}
}

func TestEvent(t *testing.T) {
	e := event()
	c := Event(e)
	if !reflect.DeepEqual(c, e) {
		t.Error(c)
	}
	c.Solution.Picks[0].Time = 9
	if !reflect.DeepEqual(e, event()) {
		t.Error("memory is shared", e)
	}
}

func TestAlertsAndBulletins(t *testing.T) {
	a, b := api.Alert{ID: 3, Event: event()}, api.Bulletin{ID: 4, Event: event()}
	x, y := Alert(a), Bulletin(b)
	if !reflect.DeepEqual(x, a) || !reflect.DeepEqual(y, b) {
		t.Error(x, y)
	}
	x.Event.Solution.Picks[0].Time, y.Event.Solution.Picks[0].Time = 9, 9
	if !reflect.DeepEqual(a.Event, event()) || !reflect.DeepEqual(b.Event, event()) {
		t.Error("memory is shared")
	}
}

func TestCatalogue(t *testing.T) {
	c := api.Catalogue{Entries: []api.Entry{{Versions: []api.Version{{Kind: 1, Event: event()}}}}}
	x := Catalogue(c)
	if !reflect.DeepEqual(x, c) {
		t.Error(x)
	}
	x.Entries[0].Versions[0].Event.Solution.Picks[0].Time = 9
	x.Entries[0].Versions[0].Kind = 9
	if v := c.Entries[0].Versions[0]; v.Kind != 1 || !reflect.DeepEqual(v.Event, event()) {
		t.Error("memory is shared")
	}
}

func progress() api.Progress {
	table := func() api.Table { return api.Table{Low: []int{1, 2}, High: []int{3, 4}} }
	s := api.Settings{Association: api.Association{Table: table()}, Scale: api.Scale{Correction: table()}}
	return api.Progress{Settings: s, Inventory: inventory(), Batches: []api.Batch{{Picks: []api.Pick{{Time: 5}}, Events: []api.Event{event()}, Left: []api.Pick{{Time: 6}}}}}
}

func TestProgress(t *testing.T) {
	p := progress()
	x := Progress(p)
	if !reflect.DeepEqual(x, p) {
		t.Error(x)
	}
	x.Settings.Association.Table.Low[0], x.Settings.Association.Table.High[0] = 9, 9
	x.Settings.Scale.Correction.Low[0], x.Settings.Scale.Correction.High[0] = 9, 9
	x.Inventory.Channels[0].Epochs[0].From = 9
	x.Batches[0].Picks[0].Time, x.Batches[0].Left[0].Time, x.Batches[0].Events[0].Solution.Picks[0].Time = 9, 9, 9
	if !reflect.DeepEqual(p, progress()) {
		t.Error("memory is shared")
	}
}

func archive() api.Archive {
	return api.Archive{Stores: []api.Store{{Records: []api.Record{{Start: 5, Samples: []int{1, 2}}}}}}
}

func TestArchive(t *testing.T) {
	a := archive()
	x := Archive(a)
	if !reflect.DeepEqual(x, a) {
		t.Error(x)
	}
	x.Stores[0].Records[0].Samples[0], x.Stores[0].Records[0].Start, x.Stores[0].Source.Network = 9, 9, "X"
	if !reflect.DeepEqual(a, archive()) {
		t.Error("memory is shared")
	}
}

func centre() api.Centre {
	return api.Centre{
		Setup: api.Setup{Settings: progress().Settings, Joining: 3, Policy: api.Policy{Rules: []api.Rule{{Picks: 1}}}}, Now: 7,
		History: api.History{Base: inventory()}, Archive: archive(), Progress: progress(),
		Catalogue: api.Catalogue{Entries: []api.Entry{{Versions: []api.Version{{Event: event()}}}}},
		Alerts:    []api.Alert{{Event: event()}}, Bulletins: []api.Bulletin{{Event: event()}},
	}
}

func TestCentre(t *testing.T) {
	c := centre()
	x := Centre(c)
	if !reflect.DeepEqual(x, c) {
		t.Error(x)
	}
	x.Setup.Settings.Scale.Correction.Low[0], x.Setup.Policy.Rules[0].Picks = 9, 9
	x.History.Base.Channels[0].Epochs[0].From, x.Archive.Stores[0].Records[0].Start, x.Progress.Batches[0].Left[0].Time = 9, 9, 9
	x.Catalogue.Entries[0].Versions[0].Kind, x.Alerts[0].ID, x.Bulletins[0].ID = 9, 9, 9
	if !reflect.DeepEqual(c, centre()) {
		t.Error("memory is shared")
	}
}
