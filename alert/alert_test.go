package alert

import (
	"math/rand"
	"reflect"
	"slices"
	"testing"

	"seismonet/api"
	"seismonet/clone"
	"seismonet/event"
	"seismonet/picker"
)

func pick(n int) api.Pick {
	return api.Pick{Time: n}
}

// happen returns an event at a time with a magnitude and picks.
func happen(time, magnitude int, picks ...int) api.Event {
	s := api.Solution{Location: api.Location{Time: time}, Magnitude: api.Estimate{Low: magnitude, High: magnitude + 20}, Count: 1}
	for _, n := range picks {
		s.Picks = append(s.Picks, pick(n))
	}
	s.Picks = picker.Sort(s.Picks)
	return api.Event{Name: s.Picks[0], Solution: s}
}

func policy() api.Policy {
	return api.Policy{Rules: []api.Rule{{Magnitude: 300, Picks: 2, Misfit: 100, Window: 60}, {Magnitude: 500, Picks: 2, Misfit: 100, Window: 60}}, Distance: 10, Every: 5}
}

func alertOf(id, at int, e api.Event) api.Alert {
	return api.Alert{ID: id, Name: e.Name, Level: 1, Event: e, At: at}
}

func withdrawn(a api.Alert) api.Alert {
	a.Withdrawn = true
	return a
}

func TestValid(t *testing.T) {
	a, b := happen(0, 400, 1, 2), happen(0, 400, 3)
	var many []api.Alert
	for i := range api.MaxAlerts + 1 {
		many = append(many, alertOf(i, 0, happen(0, 0, i)))
	}
	for i, c := range []struct {
		l    []api.Alert
		want bool
	}{
		{nil, true}, {[]api.Alert{alertOf(0, 0, a), alertOf(api.MaxBulletins-1, 2*api.MaxTime, b)}, true}, {[]api.Alert{alertOf(1, 0, a), withdrawn(alertOf(2, 0, a)), withdrawn(alertOf(3, 0, a))}, true},
		{[]api.Alert{alertOf(1, 0, a), alertOf(2, 0, a)}, false}, {[]api.Alert{alertOf(1, 0, a), alertOf(1, 0, b)}, false}, {[]api.Alert{alertOf(2, 0, a), alertOf(1, 0, b)}, false}, {[]api.Alert{alertOf(-1, 0, a)}, false},
		{[]api.Alert{alertOf(api.MaxBulletins, 0, a)}, false}, {[]api.Alert{alertOf(0, -1, a)}, false}, {[]api.Alert{alertOf(0, 2*api.MaxTime+1, a)}, false}, {many, false}, {many[1:], true}, {[]api.Alert{withdrawn(alertOf(0, -1, a))}, false},
	} {
		if Valid(c.l) != c.want {
			t.Error(i)
		}
	}
}

func TestOpen(t *testing.T) {
	l := []api.Alert{withdrawn(alertOf(1, 0, happen(0, 0, 1))), alertOf(2, 0, happen(0, 0, 2)), alertOf(2, 0, happen(0, 0, 3))}
	got := Open(l)
	if !reflect.DeepEqual(got, l[1:]) || len(Open(nil)) != 0 {
		t.Error(got)
	}
	got[0].Event.Solution.Picks[0].Time = 9
	if l[1].Event.Solution.Picks[0] != pick(2) {
		t.Error("memory is shared")
	}
}

func TestFollow(t *testing.T) {
	events := []api.Event{happen(0, 0, 1, 2, 3), happen(0, 0, 4, 5), happen(0, 0, 6, 7)}
	for i, c := range []struct {
		l    []api.Alert
		want []int
	}{
		{[]api.Alert{alertOf(0, 0, happen(0, 0, 4))}, []int{1}}, {[]api.Alert{alertOf(0, 0, happen(0, 0, 3, 9))}, []int{0}}, {[]api.Alert{alertOf(0, 0, happen(0, 0, 2, 5)), alertOf(1, 0, happen(0, 0, 1))}, []int{1, 0}},
		{[]api.Alert{alertOf(0, 0, happen(0, 0, 0, 5, 7)), alertOf(1, 0, happen(0, 0, -5, 5)), alertOf(2, 0, happen(0, 0, -1, 7))}, []int{1, -1, 2}}, {[]api.Alert{withdrawn(alertOf(0, 0, happen(0, 0, 4))), alertOf(1, 0, happen(0, 0, 9))}, []int{-1, -1}},
		{nil, nil}, {[]api.Alert{withdrawn(alertOf(0, 0, happen(0, 0, 4))), alertOf(1, 0, happen(0, 0, 4))}, []int{-1, 1}},
	} {
		if got := Follow(c.l, events); !slices.Equal(got, c.want) {
			t.Error(i, got)
		}
	}
}

func TestStep(t *testing.T) {
	first := happen(1000, 400, 1, 2)
	l, b, e := Step(policy(), nil, 7, []api.Event{first, happen(1000, 200, 3, 4), happen(900, 400, 5, 6)}, 1000)
	if want := []api.Alert{alertOf(7, 1000, first)}; !reflect.DeepEqual(l, want) || e != api.OK {
		t.Error(l, e)
	}
	if want := []api.Bulletin{{Number: 7, Kind: api.Issue, ID: 7, At: 1000, Level: 1, Event: first}}; !reflect.DeepEqual(b, want) {
		t.Error(b)
	}
	strong := happen(1000, 510, 0, 2)
	for i, c := range []struct {
		event api.Event
		now   int
		alert api.Alert
		kind  int
	}{
		{first, 1000, l[0], 0}, {first, 2000, l[0], 0}, {strong, 1004, api.Alert{ID: 7, Name: strong.Name, Level: 1, Event: first, At: 1000}, 0},
		{strong, 1005, api.Alert{ID: 7, Name: strong.Name, Level: 2, Event: strong, At: 1005}, api.Update},
		{happen(1000, 200, 0, 2), 1000, api.Alert{ID: 7, Withdrawn: true, Name: pick(0), Level: 1, Event: first, At: 1000}, api.Withdraw},
		{happen(1000, 400, 8, 9), 2000, api.Alert{ID: 7, Withdrawn: true, Name: pick(1), Level: 1, Event: first, At: 2000}, api.Withdraw},
	} {
		got, b, e := Step(policy(), l, 8, []api.Event{c.event}, c.now)
		if !reflect.DeepEqual(got, []api.Alert{c.alert}) || e != api.OK {
			t.Error(i, got, e)
		}
		if c.kind == 0 && len(b) != 0 || c.kind != 0 && !reflect.DeepEqual(b, []api.Bulletin{{Number: 8, Kind: c.kind, ID: 7, At: c.now, Level: c.alert.Level, Event: c.alert.Event}}) {
			t.Error(i, b)
		}
		again, none, e := Step(policy(), got, 9, []api.Event{c.event}, c.now)
		if !reflect.DeepEqual(again, got) || len(none) != 0 || e != api.OK {
			t.Error(i, again, none, e)
		}
	}
	gone, b, _ := Step(policy(), l, 8, nil, 1001)
	if !gone[0].Withdrawn || len(b) != 1 {
		t.Error(gone, b)
	}
	after, b, _ := Step(policy(), gone, 9, []api.Event{first}, 1002)
	if len(after) != 2 || after[1].ID != 9 || !reflect.DeepEqual(after[0], gone[0]) || b[0].Kind != api.Issue {
		t.Error("a withdrawn alert does not come back", after, b)
	}
}

func TestStepErrors(t *testing.T) {
	bad := policy()
	bad.Rules = nil
	a, b := happen(1000, 400, 1, 2), happen(1000, 400, 3, 4)
	l := []api.Alert{alertOf(5, 900, a)}
	var many []api.Alert
	for i := range api.MaxAlerts {
		many = append(many, withdrawn(alertOf(i, 0, a)))
	}
	for i, c := range []struct {
		p      api.Policy
		l      []api.Alert
		number int
		events []api.Event
		now    int
		want   api.Errno
	}{
		{bad, []api.Alert{alertOf(-1, 0, a)}, -1, nil, -1, api.ErrSettings}, {policy(), []api.Alert{alertOf(-1, 0, a)}, 6, nil, -1, api.ErrInvalid}, {policy(), l, 6, []api.Event{b, a}, -1, api.ErrInvalid}, {policy(), nil, -1, nil, -1, api.ErrInvalid},
		{policy(), l, 5, nil, -1, api.ErrInvalid}, {policy(), l, 6, nil, -1, api.ErrRange}, {policy(), l, 6, nil, 2*api.MaxTime + 1, api.ErrRange}, {policy(), nil, 0, nil, 0, api.OK}, {policy(), l, 6, nil, 2 * api.MaxTime, api.OK}, {policy(), l, 6, nil, 899, api.ErrOrder}, {policy(), l, 6, nil, 900, api.OK},
		{policy(), many, 200, []api.Event{a}, 1000, api.ErrLimit}, {policy(), many[1:], 200, []api.Event{a}, 1000, api.OK}, {policy(), nil, api.MaxBulletins, []api.Event{a}, 1000, api.ErrLimit}, {policy(), nil, api.MaxBulletins - 1, []api.Event{a}, 1000, api.OK},
		{policy(), nil, api.MaxBulletins - 1, []api.Event{a, b}, 1000, api.ErrLimit}, {policy(), nil, 1<<63 - 1, nil, 1000, api.OK}, {policy(), nil, 1<<63 - 1, []api.Event{a}, 1000, api.ErrLimit}, {policy(), nil, 1<<63 - 2, []api.Event{a, b}, 1000, api.ErrLimit},
	} {
		if l, b, e := Step(c.p, c.l, c.number, c.events, c.now); e != c.want || e != api.OK && (l != nil || b != nil) {
			t.Error(i, e)
		}
	}
}

func TestRandomSteps(t *testing.T) {
	r := rand.New(rand.NewSource(33))
	for range 200 {
		var l []api.Alert
		number, now := 0, 1000
		last := map[int]int{}
		for range 20 {
			now += r.Intn(5)
			var events []api.Event
			for k := range 4 {
				if r.Intn(4) > 0 {
					events = append(events, happen(now-r.Intn(80), 250+r.Intn(300), 10*k+r.Intn(2), 10*k+2, 10*k+3+r.Intn(2)))
				}
			}
			before := clone.Each(l, clone.Alert)
			next, b, e := Step(policy(), l, number, events, now)
			if e != api.OK || !Valid(next) || !event.Valid(events) || !reflect.DeepEqual(before, l) {
				t.Fatal(e, next)
			}
			for i, x := range b {
				if x.Number != number+i || x.At != now || x.Kind == api.Issue && (x.ID != x.Number || now-x.Event.Solution.Location.Time > 60) {
					t.Fatal(x)
				}
				if at, ok := last[x.ID]; x.Kind == api.Update && (!ok || now-at < 5) {
					t.Fatal(x)
				}
				last[x.ID] = now
			}
			for i, a := range before {
				if a.Withdrawn && !reflect.DeepEqual(next[i], a) {
					t.Fatal("a withdrawn alert changes")
				}
			}
			number += len(b)
			l = next
		}
	}
}
