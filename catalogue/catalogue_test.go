package catalogue

import (
	"math/rand"
	"reflect"
	"slices"
	"testing"

	"seismonet/api"
	"seismonet/clone"
	"seismonet/event"
	"seismonet/picker"
)

func happen(count int, picks ...int) api.Event {
	s := api.Solution{Count: count}
	for _, n := range picks {
		s.Picks = append(s.Picks, api.Pick{Time: n})
	}
	s.Picks = picker.Sort(s.Picks)
	return api.Event{Name: s.Picks[0], Solution: s}
}

var a, b = happen(1, 1, 2), happen(1, 5, 6)

func version(kind, at int, e api.Event) api.Version {
	v := api.Version{Kind: kind, At: at, Event: e}
	if kind > api.Vanished {
		v.By = "eve"
	}
	if kind == api.Merged {
		v.Into = 1
	}
	return v
}

func entry(l ...api.Version) api.Entry {
	return api.Entry{Versions: l}
}

// kinds returns an entry with versions of some kinds and the event a.
func kinds(l ...int) api.Entry {
	var e api.Entry
	for i, k := range l {
		e.Versions = append(e.Versions, version(k, i, a))
	}
	return e
}

func catalogue(l ...api.Entry) api.Catalogue {
	return api.Catalogue{Entries: l}
}

var other = entry(version(api.Automatic, 0, b))

func TestKindsThatFollow(t *testing.T) {
	const all = api.Released + 1
	open := map[int]bool{api.Automatic: true, api.Vanished: true, api.Released: true}
	for first := -1; first <= all; first++ {
		if Valid(catalogue(kinds(first), other)) != (first == api.Automatic) {
			t.Error(first)
		}
	}
	ways := map[int][]int{
		api.Automatic: {api.Automatic}, api.Vanished: {api.Automatic, api.Vanished}, api.Reviewed: {api.Automatic, api.Reviewed}, api.Deleted: {api.Automatic, api.Deleted},
		api.Merged: {api.Automatic, api.Merged}, api.Released: {api.Automatic, api.Reviewed, api.Released},
	}
	for before, way := range ways {
		for next := -1; next <= all; next++ {
			want := false
			switch next {
			case api.Automatic:
				want = open[before]
			case api.Vanished:
				want = before == api.Automatic || before == api.Released
			case api.Reviewed, api.Deleted, api.Merged:
				want = true
			case api.Released:
				want = !open[before]
			}
			c := catalogue(kinds(append(slices.Clone(way), next)...), other)
			if Valid(c) != want {
				t.Error(before, next)
			}
		}
	}
}

func TestValid(t *testing.T) {
	base := func() api.Catalogue {
		return catalogue(kinds(api.Automatic, api.Reviewed, api.Merged, api.Released, api.Automatic, api.Vanished), other)
	}
	many := make([]api.Entry, api.MaxEntries+1)
	for i := range many {
		many[i] = other
	}
	var long api.Entry
	for range api.MaxVersions + 1 {
		long.Versions = append(long.Versions, version(api.Automatic, 0, a))
	}
	if !Valid(base()) || !Valid(api.Catalogue{}) || !Valid(catalogue(many[1:]...)) || !Valid(catalogue(entry(long.Versions[1:]...))) {
		t.Error("valid")
	}
	bad := []api.Catalogue{catalogue(many...), catalogue(long), catalogue(entry())}
	for _, f := range []func(v []api.Version){
		func(v []api.Version) { v[0].By = "eve" }, func(v []api.Version) { v[5].By = "eve" }, func(v []api.Version) { v[1].By = "" }, func(v []api.Version) { v[1].By = "Eve" }, func(v []api.Version) { v[1].By = "abcdefghijklmnopq" },
		func(v []api.Version) { v[1].By = "e e" }, func(v []api.Version) { v[0].At = -1 }, func(v []api.Version) { v[5].At = 2*api.MaxTime + 1 }, func(v []api.Version) { v[3].At = 1 }, func(v []api.Version) { v[0].Into = 1 },
		func(v []api.Version) { v[2].Into = 0 }, func(v []api.Version) { v[2].Into = 2 }, func(v []api.Version) { v[2].Into = -1 }, func(v []api.Version) { v[1].Event = api.Event{} }, func(v []api.Version) { v[5].Event = b },
		func(v []api.Version) { v[2].Event = b }, func(v []api.Version) { v[3].Event = b },
	} {
		c := base()
		f(c.Entries[0].Versions)
		bad = append(bad, c)
	}
	for i, c := range bad {
		if Valid(c) || At(c, 9) != nil || Since(c, -1) != nil {
			t.Error(i)
		}
		if x, l, e := Publish(c, nil, -1); !Same(x, api.Catalogue{}) || l != nil || e != api.ErrInvalid {
			t.Error(i, e)
		}
		if x, e := Delete(c, 99, "eve", -1); !Same(x, api.Catalogue{}) || e != api.ErrInvalid {
			t.Error(i, e)
		}
		if Same(c, base()) || !Same(c, clone.Catalogue(c)) {
			t.Error(i)
		}
	}
	fine := base()
	fine.Entries[0].Versions[1].Event, fine.Entries[0].Versions[2].Event, fine.Entries[0].Versions[3].Event = b, b, b
	fine.Entries[0].Versions[1].By = "abcdefghijklmnop"
	for _, by := range []string{"a", "z", "az"} {
		fine.Entries[0].Versions[1].By = by
		fine.Entries[0].Versions[5].At = 2 * api.MaxTime
		if !Valid(fine) {
			t.Error(by)
		}
	}
	if !Valid(fine) {
		t.Error("a review may set another event")
	}
}

func TestFollow(t *testing.T) {
	events := []api.Event{happen(1, 1, 2, 3), happen(1, 4, 5), happen(1, 6, 7)}
	of := func(picks ...int) api.Entry { return entry(version(api.Automatic, 0, happen(1, picks...))) }
	for i, x := range []struct {
		l    []api.Entry
		want []int
	}{
		{nil, nil}, {[]api.Entry{of(4, 9), of(3, 9)}, []int{1, 0}}, {[]api.Entry{of(2, 5), of(1)}, []int{1, 0}}, {[]api.Entry{of(1), of(1, 7)}, []int{0, 2}}, {[]api.Entry{of(1), of(1)}, []int{0, -1}}, {[]api.Entry{of(9)}, []int{-1}},
		{[]api.Entry{entry(version(api.Automatic, 0, happen(1, 4)), version(api.Reviewed, 0, happen(1, 6)))}, []int{2}}, {[]api.Entry{entry()}, []int{-1}},
	} {
		if got := Follow(catalogue(x.l...), events); !slices.Equal(got, x.want) {
			t.Error(i, got)
		}
	}
}

func TestPublish(t *testing.T) {
	c, l, e := Publish(api.Catalogue{}, []api.Event{a, b}, 7)
	if !Same(c, catalogue(entry(version(api.Automatic, 7, a)), entry(version(api.Automatic, 7, b)))) || !slices.Equal(l, []int{0, 1}) || e != api.OK {
		t.Error(c, l, e)
	}
	if again, l, e := Publish(c, []api.Event{a, b}, 7); !Same(again, c) || len(l) != 0 || e != api.OK {
		t.Error(again, l, e)
	}
	moved := happen(2, 2, 3)
	for i, x := range []struct {
		before []api.Version
		events []api.Event
		kind   int // of the new version, 0: none
	}{
		{kinds(api.Automatic).Versions, []api.Event{a}, 0}, {kinds(api.Automatic).Versions, []api.Event{happen(2, 1, 2)}, api.Automatic}, {kinds(api.Automatic).Versions, []api.Event{moved}, api.Automatic}, {kinds(api.Automatic).Versions, nil, api.Vanished},
		{kinds(api.Automatic, api.Vanished).Versions, nil, 0}, {kinds(api.Automatic, api.Vanished).Versions, []api.Event{a}, api.Automatic}, {kinds(api.Automatic, api.Reviewed).Versions, nil, 0}, {kinds(api.Automatic, api.Reviewed).Versions, []api.Event{moved}, 0},
		{kinds(api.Automatic, api.Deleted).Versions, []api.Event{moved}, 0}, {kinds(api.Automatic, api.Merged).Versions, []api.Event{a}, 0}, {kinds(api.Automatic, api.Deleted, api.Released).Versions, []api.Event{a}, 0},
		{kinds(api.Automatic, api.Deleted, api.Released).Versions, []api.Event{moved}, api.Automatic}, {kinds(api.Automatic, api.Deleted, api.Released).Versions, nil, api.Vanished},
	} {
		events := append(slices.Clone(x.events), b)
		before := catalogue(entry(x.before...), other)
		got, l, e := Publish(before, events, 9)
		want := clone.Catalogue(before)
		var ids []int
		if x.kind != 0 {
			v := version(x.kind, 9, a)
			if x.kind == api.Automatic {
				v.Event = x.events[0]
			}
			want.Entries[0].Versions = append(want.Entries[0].Versions, v)
			ids = []int{0}
		}
		if !Same(got, want) || !slices.Equal(l, ids) || e != api.OK || !Valid(got) {
			t.Error(i, got, l, e)
		}
		got.Entries[0].Versions[0].Event.Solution.Picks[0].Time = 99
		if !Valid(before) {
			t.Fatal("memory is shared")
		}
	}
}

func TestPublishErrors(t *testing.T) {
	c := catalogue(entry(version(api.Automatic, 5, a)), entry(version(api.Automatic, 8, b)))
	full := make([]api.Entry, api.MaxEntries)
	for i := range full {
		full[i] = entry(version(api.Automatic, 0, happen(1, 10*i+10)))
	}
	var long api.Entry
	for range api.MaxVersions {
		long.Versions = append(long.Versions, version(api.Automatic, 0, a))
	}
	for i, x := range []struct {
		c      api.Catalogue
		events []api.Event
		now    int
		want   api.Errno
	}{
		{c, []api.Event{b, a}, -1, api.ErrInvalid}, {c, nil, -1, api.ErrRange}, {c, nil, 2*api.MaxTime + 1, api.ErrRange}, {c, nil, 7, api.ErrOrder}, {c, nil, 8, api.OK}, {c, nil, 2 * api.MaxTime, api.OK}, {catalogue(full...), []api.Event{happen(1, 1)}, 0, api.ErrLimit},
		{catalogue(full[1:]...), []api.Event{happen(1, 1)}, 0, api.OK}, {catalogue(long), nil, 0, api.ErrLimit}, {catalogue(long), []api.Event{a}, 0, api.OK}, {catalogue(entry(long.Versions[1:]...)), nil, 0, api.OK},
	} {
		if got, l, e := Publish(x.c, x.events, x.now); e != x.want || e != api.OK && (!Same(got, api.Catalogue{}) || l != nil) {
			t.Error(i, e)
		}
	}
}

func TestActs(t *testing.T) {
	c := catalogue(entry(version(api.Automatic, 5, a)), entry(version(api.Automatic, 8, b)), kinds(api.Automatic, api.Deleted))
	acts := map[int]func(id int, by string, now int) (api.Catalogue, api.Errno){
		api.Reviewed: func(id int, by string, now int) (api.Catalogue, api.Errno) { return Review(c, id, by, a, now) },
		api.Deleted:  func(id int, by string, now int) (api.Catalogue, api.Errno) { return Delete(c, id, by, now) },
		api.Merged:   func(id int, by string, now int) (api.Catalogue, api.Errno) { return Merge(c, id, 1, by, now) },
		api.Released: func(id int, by string, now int) (api.Catalogue, api.Errno) { return Release(c, id, by, now) },
	}
	for kind, f := range acts {
		id := 0
		if kind == api.Released {
			id = 2
		}
		got, e := f(id, "eve", 9)
		want := clone.Catalogue(c)
		want.Entries[id].Versions = append(want.Entries[id].Versions, version(kind, 9, a))
		if !Same(got, want) || e != api.OK || !Valid(got) {
			t.Error(kind, got, e)
		}
		for i, x := range []struct {
			id   int
			by   string
			now  int
			want api.Errno
		}{{99, "", -1, api.ErrInvalid}, {99, "Eve", 9, api.ErrInvalid}, {99, "eve", -1, api.ErrNotFound}, {-1, "eve", -1, api.ErrNotFound}, {3, "eve", 9, api.ErrNotFound}, {1, "eve", -1, api.ErrRange}, {1, "eve", 2*api.MaxTime + 1, api.ErrRange}, {0, "eve", 7, api.ErrOrder}} {
			if got, e := f(x.id, x.by, x.now); !Same(got, api.Catalogue{}) || e != x.want {
				t.Error(kind, i, e)
			}
		}
	}
	if got, e := Review(c, 0, "eve", api.Event{}, 9); !Same(got, api.Catalogue{}) || e != api.ErrInvalid {
		t.Error(e)
	}
	if got, e := Review(c, 2, "eve", b, 9); got.Entries[2].Versions[2].Event.Name != b.Name || e != api.OK {
		t.Error(e)
	}
	for into, want := range map[int]api.Errno{-1: api.ErrNotFound, 3: api.ErrNotFound, 0: api.ErrState} {
		if _, e := Merge(c, 0, into, "eve", 9); e != want {
			t.Error(into, e)
		}
	}
	if _, e := Merge(c, 0, 0, "eve", 7); e != api.ErrOrder {
		t.Error(e)
	}
	if _, e := Release(c, 0, "eve", 9); e != api.ErrState {
		t.Error(e)
	}
	long := entry(version(api.Automatic, 0, a))
	for len(long.Versions) < api.MaxVersions {
		long.Versions = append(long.Versions, version(api.Deleted, 0, a))
	}
	if _, e := Delete(catalogue(long), 0, "eve", 0); e != api.ErrLimit {
		t.Error(e)
	}
	if _, e := Merge(catalogue(long), 0, 0, "eve", 0); e != api.ErrState {
		t.Error(e)
	}
	if _, e := Delete(catalogue(entry(long.Versions[:99]...)), 0, "eve", 0); e != api.OK {
		t.Error(e)
	}
}

func TestAtAndSince(t *testing.T) {
	c := catalogue(kinds(api.Automatic, api.Vanished, api.Reviewed, api.Deleted, api.Released, api.Merged), entry(version(api.Automatic, 3, b)))
	for at, want := range map[int][]api.Event{-1: nil, 0: {a}, 1: nil, 2: {a}, 3: {b}, 4: {a, b}, 5: {b}, 99: {b}} {
		if got := At(c, at); !event.Same(got, want) {
			t.Error(at, got)
		}
	}
	for at, want := range map[int][]int{-1: {0, 1}, 2: {0, 1}, 3: {0}, 4: {0}, 5: nil} {
		if got := Since(c, at); !slices.Equal(got, want) {
			t.Error(at, got)
		}
	}
}

func TestRandomHistories(t *testing.T) {
	r := rand.New(rand.NewSource(35))
	for range 100 {
		var c api.Catalogue
		for now := range 25 {
			before := clone.Catalogue(c)
			var events []api.Event
			for k := range 4 {
				if r.Intn(3) > 0 {
					events = append(events, happen(r.Intn(2), 10*k+r.Intn(2), 10*k+2, 10*k+3+r.Intn(2)))
				}
			}
			next, e := c, api.OK
			if n := len(c.Entries); n > 0 && r.Intn(2) == 0 {
				id := r.Intn(n)
				switch r.Intn(4) {
				case 0:
					next, e = Review(c, id, "eve", happen(7, 10*r.Intn(4)+2), now)
				case 1:
					next, e = Delete(c, id, "eve", now)
				case 2:
					next, e = Merge(c, id, r.Intn(n), "eve", now)
				case 3:
					next, e = Release(c, id, "eve", now)
				}
			} else {
				next, _, e = Publish(c, events, now)
				checkShown(t, c, next, events)
			}
			if !reflect.DeepEqual(c, before) {
				t.Fatal("the argument has changed")
			}
			if e == api.ErrState {
				continue
			}
			if e != api.OK || !Valid(next) {
				t.Fatal(e, next)
			}
			for id, x := range c.Entries {
				if !reflect.DeepEqual(x.Versions, next.Entries[id].Versions[:len(x.Versions)]) {
					t.Fatal("a version has changed")
				}
			}
			c = next
		}
	}
}

// The shown events of open entries are those that no entry which is not open follows.
func checkShown(t *testing.T, before, after api.Catalogue, events []api.Event) {
	t.Helper()
	closed := map[int]bool{}
	for id, i := range Follow(before, events) {
		if !isOpen[last(before.Entries[id]).Kind] && i >= 0 {
			closed[i] = true
		}
	}
	var want, got []api.Event
	for i, e := range events {
		if !closed[i] {
			want = append(want, e)
		}
	}
	for _, x := range after.Entries {
		if v := last(x); isOpen[v.Kind] && isShown[v.Kind] {
			got = append(got, v.Event)
		}
	}
	slices.SortFunc(got, func(a, b api.Event) int { return event.Compare(a.Name, b.Name) })
	if !event.Same(got, want) {
		t.Fatal(got, want)
	}
}
