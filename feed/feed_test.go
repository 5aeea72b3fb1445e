package feed

import (
	"math/rand"
	"reflect"
	"slices"
	"strings"
	"testing"

	"seismonet/api"
	"seismonet/clone"
)

func pick(time int) api.Pick {
	return api.Pick{Source: api.SourceID{Network: "GR", Station: "FUR", Channel: "HHZ"}, Time: time, Early: time - 1, Late: time + 2, Amplitude: 9, Polarity: -1}
}

func bulletin(number, kind, id int) api.Bulletin {
	s := api.Solution{Picks: []api.Pick{pick(5), pick(7)}, Magnitude: api.Estimate{Low: -10, High: 20}, Count: 2}
	s.Location = api.Location{Point: api.Position{X: 1, Y: -2, Z: 3}, Time: 4, Misfit: 5, Lower: 0, Area: api.Box{Low: api.Position{X: -9, Y: -8, Z: -7}, High: api.Position{X: 9, Y: 8, Z: 7}}}
	return api.Bulletin{Number: number, Kind: kind, ID: id, At: 100, Level: 1, Event: api.Event{Name: pick(5), Solution: s}}
}

const text = "3 1 3 100 1 GR.FUR..HHZ 5 4 7 9 -1 2 GR.FUR..HHZ 5 4 7 9 -1 GR.FUR..HHZ 7 6 9 9 -1 1 -2 3 4 5 0 -9 -8 -7 9 8 7 -10 20 2"

func with(f func(b *api.Bulletin)) api.Bulletin {
	b := bulletin(3, api.Update, 1)
	f(&b)
	return b
}

func TestValid(t *testing.T) {
	const far = 1 << 60
	for i, f := range []func(b *api.Bulletin){
		func(b *api.Bulletin) {}, func(b *api.Bulletin) { b.Kind = api.Withdraw }, func(b *api.Bulletin) { b.Kind, b.ID = api.Issue, 3 }, func(b *api.Bulletin) { b.Number = api.MaxBulletins - 1 },
		func(b *api.Bulletin) { b.At, b.Event.Solution.Count = -far, far }, func(b *api.Bulletin) { b.Level, b.Event.Solution.Picks = api.MaxRules, nil }, func(b *api.Bulletin) { b.Event.Solution.Picks = slices.Repeat([]api.Pick{pick(5)}, 64) },
		func(b *api.Bulletin) { b.Number, b.ID, b.Kind = -1, -1, api.Issue }, func(b *api.Bulletin) { b.Number = api.MaxBulletins }, func(b *api.Bulletin) { b.Kind = 0 }, func(b *api.Bulletin) { b.Kind = 4 },
		func(b *api.Bulletin) { b.ID = 3 }, func(b *api.Bulletin) { b.Kind = api.Issue }, func(b *api.Bulletin) { b.ID = -1 }, func(b *api.Bulletin) { b.ID = 4 }, func(b *api.Bulletin) { b.Level = -1 }, func(b *api.Bulletin) { b.Level = api.MaxRules + 1 },
		func(b *api.Bulletin) { b.Event.Name.Polarity = 2 }, func(b *api.Bulletin) { b.Event.Solution.Picks[1].Early = 99 }, func(b *api.Bulletin) { b.Event.Solution.Picks = slices.Repeat([]api.Pick{pick(5)}, 65) },
		func(b *api.Bulletin) { b.At = far + 1 }, func(b *api.Bulletin) { b.Event.Solution.Location.Point.X = -far - 1 }, func(b *api.Bulletin) { b.Event.Solution.Location.Point.Y = far + 1 }, func(b *api.Bulletin) { b.Event.Solution.Location.Point.Z = far + 1 },
		func(b *api.Bulletin) { b.Event.Solution.Location.Time = far + 1 }, func(b *api.Bulletin) { b.Event.Solution.Location.Misfit = far + 1 }, func(b *api.Bulletin) { b.Event.Solution.Location.Lower = far + 1 },
		func(b *api.Bulletin) { b.Event.Solution.Location.Area.Low.X = far + 1 }, func(b *api.Bulletin) { b.Event.Solution.Location.Area.Low.Y = far + 1 }, func(b *api.Bulletin) { b.Event.Solution.Location.Area.Low.Z = far + 1 },
		func(b *api.Bulletin) { b.Event.Solution.Location.Area.High.X = far + 1 }, func(b *api.Bulletin) { b.Event.Solution.Location.Area.High.Y = far + 1 }, func(b *api.Bulletin) { b.Event.Solution.Location.Area.High.Z = far + 1 },
		func(b *api.Bulletin) { b.Event.Solution.Magnitude.Low = far + 1 }, func(b *api.Bulletin) { b.Event.Solution.Magnitude.High = far + 1 }, func(b *api.Bulletin) { b.Event.Solution.Count = far + 1 },
	} {
		b := with(f)
		s, e := Encode(b)
		if good := i < 7; Valid(b) != good || (e == api.OK) != good || !good && (s != "" || e != api.ErrInvalid) {
			t.Error(i, e)
		}
		if i >= 7 {
			continue
		}
		if back, e := Decode(s); !reflect.DeepEqual(back, b) || e != api.OK {
			t.Error(i, s, back, e)
		}
	}
}

func TestText(t *testing.T) {
	if s, e := Encode(bulletin(3, api.Issue, 3)); s != text || e != api.OK {
		t.Error(s, e)
	}
	words := strings.Split(text, " ")
	change := func(i int, w string) string {
		l := slices.Clone(words)
		l[i] = w
		return strings.Join(l, " ")
	}
	for i, s := range []string{
		"", " ", text + " ", " " + text, text + " 0", text[:len(text)-2], strings.Replace(text, " 1 3 ", "  1 3 ", 1), strings.ReplaceAll(text, " ", "\n"), change(0, "03"), change(0, "+3"), change(0, "4"), change(0, "3x"), change(1, "2"), change(3, "-0"),
		change(3, "1152921504606846977"), change(3, "99999999999999999999"), change(3, ""), change(5, "GR.FUR.HHZ"), change(5, "gr.FUR..HHZ"), change(6, "3"), change(11, "1"), change(11, "3"), change(11, "-1"), change(11, "65"), change(11, "9223372036854775807"), change(12, "X"),
		change(17, "2"), change(4, "9"),
	} {
		if b, e := Decode(s); !reflect.DeepEqual(b, api.Bulletin{}) || e != api.ErrFormat {
			t.Error(i, s, b, e)
		}
	}
}

func history() []api.Bulletin {
	l := []api.Bulletin{bulletin(0, api.Issue, 0), bulletin(1, api.Issue, 1), bulletin(2, api.Update, 0), bulletin(3, api.Withdraw, 0), bulletin(4, api.Update, 1), bulletin(5, api.Issue, 5)}
	for i := range l {
		l[i].At, l[i].Level = 10*(i/2), i
	}
	return l
}

func TestHistory(t *testing.T) {
	l := history()
	for n := range len(l) + 1 {
		if !History(l[:n]) {
			t.Error(n)
		}
	}
	for i, f := range []func(l []api.Bulletin){
		func(l []api.Bulletin) { l[5].Number, l[5].ID = 6, 6 }, func(l []api.Bulletin) { l[4].At = 9 }, func(l []api.Bulletin) { l[4].ID = 0 }, func(l []api.Bulletin) { l[4].ID = 2 }, func(l []api.Bulletin) { l[4].ID, l[4].Kind = 3, api.Withdraw },
		func(l []api.Bulletin) { l[5].Kind, l[5].ID = api.Update, 0 }, func(l []api.Bulletin) { l[0].Event.Name.Polarity = 9 }, func(l []api.Bulletin) { l[0], l[1] = l[1], l[0] }, func(l []api.Bulletin) { l[5].Kind, l[5].ID = api.Withdraw, 0 },
	} {
		l := history()
		f(l)
		if History(l) {
			t.Error(i)
		}
	}
}

func TestCurrent(t *testing.T) {
	l := history()
	got := Current(l)
	if !reflect.DeepEqual(got, []api.Bulletin{l[4], l[5]}) {
		t.Error(got)
	}
	got[0].Event.Solution.Picks[0].Time = 99
	if !reflect.DeepEqual(l, history()) {
		t.Error("memory is shared")
	}
	odd := []api.Bulletin{{ID: 7, Kind: 9}, {ID: -3, Kind: api.Withdraw}, {ID: -3, Kind: api.Update, Level: 4}, {ID: 2, Kind: api.Issue}, {ID: 2, Kind: api.Withdraw}}
	if got := Current(odd); !reflect.DeepEqual(got, []api.Bulletin{odd[2], odd[0]}) {
		t.Error(got)
	}
	if got := Current(nil); len(got) != 0 {
		t.Error(got)
	}
}

func TestPrefix(t *testing.T) {
	l := history()
	var all []api.Arrival
	for i, b := range l {
		s, _ := Encode(b)
		all = append(all, api.Arrival{Seq: i, Data: s})
	}
	if got := Prefix([]api.Arrival{all[0], all[2]}); !reflect.DeepEqual(got, l[:1]) {
		t.Error(got)
	}
	if got := Prefix([]api.Arrival{all[1]}); len(got) != 0 {
		t.Error(got)
	}
	other, _ := Encode(bulletin(0, api.Issue, 0))
	if got := Prefix([]api.Arrival{{Seq: 0, Data: "x"}, {Seq: 0, Data: all[1].Data}, all[0], {Seq: 0, Data: other}, all[1]}); !reflect.DeepEqual(got, l[:2]) {
		t.Error(got)
	}
	r := rand.New(rand.NewSource(34))
	for range 200 {
		var some []api.Arrival
		has := map[int]bool{}
		for range r.Intn(12) {
			a := all[r.Intn(len(all))]
			some = append(some, a)
			has[a.Seq] = true
		}
		n := 0
		for has[n] {
			n++
		}
		if got := Prefix(some); !reflect.DeepEqual(got, clone.Each(l[:n], clone.Bulletin)) {
			t.Fatal(some, got)
		}
	}
}
