package centre

import (
	"math/rand"
	"reflect"
	"slices"
	"testing"

	"seismonet/alert"
	"seismonet/api"
	"seismonet/archive"
	"seismonet/catalogue"
	"seismonet/clone"
	"seismonet/event"
	"seismonet/example"
	"seismonet/feed"
	"seismonet/inventory"
	"seismonet/reprocess"
	"seismonet/revision"
)

var (
	here  = api.Position{X: 7, Y: 12, Z: 3}
	there = api.Position{X: 20, Y: 9}
)

func start(t *testing.T) api.Centre {
	t.Helper()
	c, e := New(example.Setup(), example.Inventory())
	if e != api.OK {
		t.Fatal(e)
	}
	return c
}

func receive(t *testing.T, c api.Centre, l ...api.Record) api.Centre {
	t.Helper()
	for _, r := range l {
		var e api.Errno
		if c, _, e = Receive(c, r); e != api.OK {
			t.Fatal(e)
		}
	}
	return c
}

func tick(t *testing.T, c api.Centre, now int) (api.Centre, []api.Bulletin) {
	t.Helper()
	before := clone.Centre(c)
	next, b, e := Tick(c, now)
	if e != api.OK || !Same(c, before) {
		t.Fatal(e)
	}
	return next, b
}

// move returns the change that moves a station from a time on.
func move(i, x int) api.Change {
	old := example.Inventory().Channels[i].Epochs[0]
	old.Position.X = x
	return api.Change{Kind: api.ChangeReplace, Source: example.Source(i), From: 0, Epoch: old}
}

func TestValidate(t *testing.T) {
	broken := api.Inventory{Channels: make([]api.Channel, 1)}
	for i, f := range []func(u *api.Setup){
		func(u *api.Setup) {}, func(u *api.Setup) { u.Joining = 0 }, func(u *api.Setup) { u.Joining = api.Second },
		func(u *api.Setup) { u.Joining = -1 }, func(u *api.Setup) { u.Joining = api.Second + 1 }, func(u *api.Setup) { u.Settings.Tolerance = -1 }, func(u *api.Setup) { u.Picking.Back = -1 }, func(u *api.Setup) { u.Policy.Rules = nil },
	} {
		u := example.Setup()
		f(&u)
		want := api.OK
		if i >= 3 {
			want = api.ErrSettings
		}
		if e := Validate(u); e != want {
			t.Error(i, e)
		}
		if want == api.OK {
			want = api.ErrInvalid
		}
		if c, e := New(u, broken); !Same(c, api.Centre{}) || e != want {
			t.Error(i, e)
		}
	}
}

func TestNew(t *testing.T) {
	c := start(t)
	p, _ := reprocess.New(example.Setup().Settings, example.Inventory(), nil)
	want := api.Centre{Setup: example.Setup(), History: api.History{Base: example.Inventory()}, Progress: p}
	if !Same(c, want) || !inventory.Same(Inventory(c), example.Inventory()) {
		t.Error(c)
	}
	c, b := tick(t, c, 5)
	if len(b) != 0 || len(reprocess.Events(c.Progress)) != 0 || c.Now != 5 {
		t.Error(c, b)
	}
}

func TestReceive(t *testing.T) {
	c := start(t)
	r := example.Records(here, 10*api.Second, 500)[0]
	next, fresh, e := Receive(c, r)
	want := clone.Centre(c)
	want.Archive, _, _ = archive.Add(c.Archive, r)
	if !Same(next, want) || !fresh || e != api.OK {
		t.Error(fresh, e)
	}
	again, fresh, e := Receive(next, r)
	if !Same(again, want) || fresh || e != api.OK {
		t.Error(fresh, e)
	}
	again.Setup.Policy.Rules[0].Picks = 9
	again.History.Base.Channels[0].Epochs[0].From = 9
	if !Same(next, want) {
		t.Error("memory is shared")
	}
	if x, fresh, e := Receive(c, api.Record{}); !Same(x, api.Centre{}) || fresh || e != api.ErrInvalid {
		t.Error(e)
	}
}

func TestCorrect(t *testing.T) {
	c := start(t)
	next, e := Correct(c, move(1, 29))
	want := clone.Centre(c)
	want.History.Changes = []api.Change{move(1, 29)}
	if !Same(next, want) || e != api.OK || Inventory(next).Channels[1].Epochs[0].Position.X != 29 || !inventory.Same(next.Progress.Inventory, example.Inventory()) {
		t.Error(next, e)
	}
	for _, x := range []api.Change{{}, {Kind: api.ChangeRemove, Source: example.Source(1), From: 7}} {
		_, want := revision.Append(c.History, x)
		if got, e := Correct(c, x); !Same(got, api.Centre{}) || e != want || e == api.OK {
			t.Error(e)
		}
	}
}

// eventful returns a centre that has found two events.
func eventful(t *testing.T) api.Centre {
	t.Helper()
	c := receive(t, start(t), example.Records(here, 10*api.Second+123456, 500)...)
	c, b := tick(t, c, 14*api.Second)
	if len(b) != 1 || b[0].Kind != api.Issue || b[0].Level != 1 {
		t.Fatal(b)
	}
	c = receive(t, c, example.Records(there, 20*api.Second, 9000)...)
	c, b = tick(t, c, 24*api.Second)
	if len(b) != 1 || b[0].Kind != api.Issue || b[0].Level != 2 || len(c.Bulletins) != 2 || len(c.Catalogue.Entries) != 2 || len(c.Alerts) != 2 {
		t.Fatal(b)
	}
	return c
}

func TestDo(t *testing.T) {
	c := eventful(t)
	e0 := c.Catalogue.Entries[0].Versions[0].Event
	e0.Solution.Count = 7
	for _, a := range []api.Act{{Kind: api.Reviewed, ID: 0, By: "eve", Event: e0}, {Kind: api.Deleted, ID: 1, By: "eve"}, {Kind: api.Merged, ID: 1, Into: 0, By: "eve"}} {
		got, e := Do(c, a)
		want := clone.Centre(c)
		switch a.Kind {
		case api.Reviewed:
			want.Catalogue, _ = catalogue.Review(c.Catalogue, a.ID, a.By, a.Event, c.Now)
		case api.Deleted:
			want.Catalogue, _ = catalogue.Delete(c.Catalogue, a.ID, a.By, c.Now)
		case api.Merged:
			want.Catalogue, _ = catalogue.Merge(c.Catalogue, a.ID, a.Into, a.By, c.Now)
		}
		if !Same(got, want) || e != api.OK {
			t.Error(a, e)
		}
		back, e := Do(got, api.Act{Kind: api.Released, ID: a.ID, By: "bob"})
		want.Catalogue, _ = catalogue.Release(got.Catalogue, a.ID, "bob", c.Now)
		if !Same(back, want) || e != api.OK {
			t.Error(a, e)
		}
	}
	for i, x := range []struct {
		a    api.Act
		want api.Errno
	}{
		{api.Act{}, api.ErrRange}, {api.Act{Kind: api.Automatic, By: "eve"}, api.ErrRange}, {api.Act{Kind: api.Vanished}, api.ErrRange}, {api.Act{Kind: 7}, api.ErrRange}, {api.Act{Kind: -1}, api.ErrRange}, {api.Act{Kind: api.Deleted}, api.ErrInvalid},
		{api.Act{Kind: api.Deleted, ID: 2, By: "eve"}, api.ErrNotFound}, {api.Act{Kind: api.Merged, By: "eve"}, api.ErrState}, {api.Act{Kind: api.Released, By: "eve"}, api.ErrState}, {api.Act{Kind: api.Reviewed, By: "eve"}, api.ErrInvalid},
	} {
		if got, e := Do(c, x.a); !Same(got, api.Centre{}) || e != x.want {
			t.Error(i, e)
		}
	}
}

// follow makes a tick by the definition.
func follow(t *testing.T, c api.Centre, now int) (api.Centre, []api.Bulletin) {
	t.Helper()
	next := clone.Centre(c)
	picks, e1 := archive.Picks(c.Archive, c.Setup.Picking, c.Setup.Joining)
	progress, _, e2 := reprocess.Update(c.Progress, Inventory(c), picks)
	events := reprocess.Events(progress)
	entries, _, e3 := catalogue.Publish(c.Catalogue, events, now)
	followed := catalogue.Follow(c.Catalogue, events)
	var rest []api.Event
	for i, e := range events {
		id := slices.Index(followed, i)
		if id >= 0 {
			v := c.Catalogue.Entries[id].Versions
			if k := v[len(v)-1].Kind; k == api.Reviewed || k == api.Deleted || k == api.Merged {
				continue
			}
		}
		rest = append(rest, e)
	}
	alerts, b, e4 := alert.Step(c.Setup.Policy, c.Alerts, len(c.Bulletins), rest, now)
	if e1 != api.OK || e2 != api.OK || e3 != api.OK || e4 != api.OK {
		t.Fatal(e1, e2, e3, e4)
	}
	next.Progress, next.Catalogue, next.Alerts, next.Now = progress, entries, alerts, now
	next.Bulletins = append(next.Bulletins, b...)
	return next, b
}

func TestRandomTicks(t *testing.T) {
	r := rand.New(rand.NewSource(39))
	for range 8 {
		c := start(t)
		now := 0
		for range 14 {
			now += r.Intn(6) * api.Second
			switch r.Intn(5) {
			case 0, 1:
				l := example.Records(api.Position{X: r.Intn(31), Y: r.Intn(31)}, now+r.Intn(api.Second), 300+r.Intn(5000))
				r.Shuffle(len(l), func(i, k int) { l[i], l[k] = l[k], l[i] })
				c = receive(t, c, l[r.Intn(2):]...)
			case 2:
				if x, e := Correct(c, move(r.Intn(5), r.Intn(30))); e == api.OK {
					c = x
				}
			case 3:
				if x, e := Do(c, api.Act{Kind: 3 + r.Intn(4), ID: r.Intn(3), Into: r.Intn(3), By: "eve", Event: versionOf(c, r.Intn(3))}); e == api.OK {
					c = x
				}
			case 4:
				if x, e := Recover(c); e == api.OK {
					c = x
				}
			}
			want, told := follow(t, c, now)
			next, b := tick(t, c, now)
			if !Same(next, want) || !reflect.DeepEqual(b, told) || !feed.History(next.Bulletins) {
				t.Fatal(b, told)
			}
			if again, b := tick(t, next, now); !Same(again, next) || len(b) != 0 {
				t.Fatal("a second tick changes something", b)
			}
			recovered, e := Recover(c)
			if after, _ := tick(t, recovered, now); e != api.OK || !Same(after, next) {
				t.Fatal("a tick behind Recover has another result", e)
			}
			c = next
		}
	}
}

func versionOf(c api.Centre, id int) api.Event {
	if id >= len(c.Catalogue.Entries) {
		return api.Event{}
	}
	return c.Catalogue.Entries[id].Versions[0].Event
}

func TestTimesOfTicks(t *testing.T) {
	c, _ := tick(t, start(t), 5)
	for now, want := range map[int]api.Errno{4: api.ErrOrder, 5: api.OK, 2 * api.MaxTime: api.OK, 2*api.MaxTime + 1: api.ErrRange, -1: api.ErrRange} {
		if _, _, e := Tick(c, now); e != want {
			t.Error(now, e)
		}
	}
	if _, _, e := Tick(start(t), 0); e != api.OK {
		t.Error(e)
	}
}

func TestTickErrors(t *testing.T) {
	c := eventful(t)
	noisy := clone.Centre(c)
	late := example.Records(here, 500*api.Second, 100)[0]
	for range api.MaxTriggers + 1 {
		late.Samples = append(late.Samples, slices.Repeat([]int{1}, 40)...)
		late.Samples = append(late.Samples, 500, 500, 500, 1)
	}
	late.Rate.Num = 4096
	noisy = receive(t, noisy, late)
	crowded := clone.Centre(c)
	for len(crowded.Catalogue.Entries) < api.MaxEntries {
		n := len(crowded.Catalogue.Entries)
		p := api.Pick{Source: example.Source(0), Time: 100000 + n, Early: 100000 + n, Late: 100000 + n}
		v := api.Version{Kind: api.Automatic, Event: api.Event{Name: p, Solution: api.Solution{Picks: []api.Pick{p}}}}
		crowded.Catalogue.Entries = append(crowded.Catalogue.Entries, api.Entry{Versions: []api.Version{v}})
	}
	crowded = receive(t, crowded, example.Records(here, 30*api.Second, 500)...)
	told := receive(t, c, example.Records(here, 30*api.Second, 500)...)
	for len(told.Bulletins) < api.MaxBulletins {
		told.Bulletins = append(told.Bulletins, api.Bulletin{})
	}
	for i, x := range []struct {
		c    api.Centre
		now  int
		want api.Errno
	}{{c, -1, api.ErrRange}, {c, 2*api.MaxTime + 1, api.ErrRange}, {c, 23 * api.Second, api.ErrOrder}, {noisy, 33 * api.Second, api.ErrLimit}, {crowded, 33 * api.Second, api.ErrLimit}, {told, 33 * api.Second, api.ErrLimit}} {
		if got, b, e := Tick(x.c, x.now); !Same(got, api.Centre{}) || b != nil || e != x.want {
			t.Error(i, e)
		}
	}
	if got, e := Recover(noisy); !Same(got, api.Centre{}) || e != api.ErrLimit {
		t.Error(e)
	}
}

func TestOrderDoesNotMatter(t *testing.T) {
	l := slices.Concat(example.Records(here, 10*api.Second, 500), example.Records(there, 20*api.Second, 900))
	changes := []api.Change{move(1, 29), move(2, 1)}
	straight := receive(t, start(t), l...)
	for _, x := range changes {
		straight, _ = Correct(straight, x)
	}
	straight, _ = tick(t, straight, 30*api.Second)
	slices.Reverse(l)
	c := start(t)
	for i, r := range l {
		c = receive(t, c, r)
		if i == 2 || i == 7 {
			c, _ = Correct(c, changes[i/5])
		}
		c, _ = tick(t, c, i*api.Second)
	}
	c, _ = tick(t, c, 30*api.Second)
	if !reprocess.Same(c.Progress, straight.Progress) || len(reprocess.Events(c.Progress)) != 2 {
		t.Error(c.Progress, straight.Progress)
	}
}

func TestDeletedEntryWithdrawsAlert(t *testing.T) {
	c := eventful(t)
	c, e := Do(c, api.Act{Kind: api.Deleted, ID: 0, By: "eve"})
	if e != api.OK {
		t.Fatal(e)
	}
	c, b := tick(t, c, 25*api.Second)
	if len(b) != 1 || b[0].Kind != api.Withdraw || b[0].ID != 0 || b[0].Number != 2 || len(catalogue.At(c.Catalogue, c.Now)) != 1 {
		t.Error(b)
	}
	c, e = Do(c, api.Act{Kind: api.Released, ID: 0, By: "eve"})
	c, b = tick(t, c, 26*api.Second)
	if e != api.OK || len(b) != 1 || b[0].Kind != api.Issue || b[0].ID != 3 {
		t.Error(b, e)
	}
	if events := reprocess.Events(c.Progress); !event.Same(catalogue.At(c.Catalogue, c.Now), events) {
		t.Error(events)
	}
}

func TestRecover(t *testing.T) {
	c := eventful(t)
	lost := clone.Centre(c)
	lost.Progress.Batches = nil
	got, e := Recover(lost)
	if !Same(got, c) || e != api.OK {
		t.Error(e)
	}
	got.Progress.Batches[0].Picks[0].Time = 9
	if len(lost.Progress.Batches) != 0 {
		t.Error("memory is shared")
	}
}

func TestSame(t *testing.T) {
	c := eventful(t)
	c, _ = Correct(c, move(1, 29))
	for i, f := range []func(c *api.Centre){
		func(c *api.Centre) { c.Setup.Settings.Tolerance = 9 }, func(c *api.Centre) { c.Setup.Picking.Back = 9 }, func(c *api.Centre) { c.Setup.Joining = 9 }, func(c *api.Centre) { c.Setup.Policy.Rules[0].Picks = 9 }, func(c *api.Centre) { c.Setup.Policy.Every = 9 },
		func(c *api.Centre) { c.Setup.Policy.Distance = 9 }, func(c *api.Centre) { c.Now = 9 }, func(c *api.Centre) { c.History.Base.Channels[0].Epochs[0].To = 9 }, func(c *api.Centre) { c.History.Changes[0].From = 9 }, func(c *api.Centre) { c.History.Changes[0].Kind = 9 },
		func(c *api.Centre) { c.History.Changes[0].Source.Network = "X" }, func(c *api.Centre) { c.History.Changes[0].Epoch.To = 9 }, func(c *api.Centre) { c.Archive.Stores[0].Records[0].Samples[0] = 9 }, func(c *api.Centre) { c.Progress.Batches[0].Picks[0].Time = 9 },
		func(c *api.Centre) { c.Catalogue.Entries[0].Versions[0].At = 9 }, func(c *api.Centre) { c.Alerts[0].ID = 9 }, func(c *api.Centre) { c.Alerts[0].Withdrawn = true }, func(c *api.Centre) { c.Alerts[0].Name = api.Pick{Time: 9} }, func(c *api.Centre) { c.Alerts[0].Level = 9 },
		func(c *api.Centre) { c.Alerts[0].At = 9 }, func(c *api.Centre) { c.Alerts[0].Event.Solution.Count = 9 }, func(c *api.Centre) { c.Bulletins[0].Number = 9 }, func(c *api.Centre) { c.Bulletins[0].Kind = 9 }, func(c *api.Centre) { c.Bulletins[0].ID = 9 },
		func(c *api.Centre) { c.Bulletins[0].At = 9 }, func(c *api.Centre) { c.Bulletins[0].Level = 9 }, func(c *api.Centre) { c.Bulletins[0].Event.Solution.Count = 9 }, func(c *api.Centre) { c.Bulletins = c.Bulletins[1:] },
	} {
		x := clone.Centre(c)
		f(&x)
		if Same(x, c) || !Same(x, clone.Centre(x)) {
			t.Error(i)
		}
	}
}
