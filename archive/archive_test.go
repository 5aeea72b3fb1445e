package archive

import (
	"math/rand"
	"reflect"
	"slices"
	"testing"

	"seismonet/api"
	"seismonet/clone"
	"seismonet/compose"
	"seismonet/continuity"
	"seismonet/picker"
	"seismonet/record"
)

func id(station string) api.SourceID {
	return api.SourceID{Network: "GR", Station: station, Channel: "HHZ"}
}

func rec(station string, start, seq int, samples ...int) api.Record {
	return api.Record{Source: id(station), Rate: api.Rate{Num: 1000, Den: 1}, Start: start, Seq: seq, Samples: samples}
}

func store(station string, l ...api.Record) api.Store {
	return api.Store{Source: id(station), Records: l}
}

func archive(l ...api.Store) api.Archive {
	return api.Archive{Stores: l}
}

func example() api.Archive {
	return archive(
		store("A", rec("A", 0, 1, 1, 1, 1, 1, 9, 9, 1, 1), rec("A", 8000, 1, 1, 1)),
		store("B", rec("B", 0, 1, 1, 1, 1, 1, 7, 1, 1), rec("B", 5000, 2, 7, 1, 1)),
	)
}

func invalid() []api.Archive {
	many := archive()
	for i := range api.MaxChannels + 1 {
		station := string([]byte{byte('A' + i/26), byte('A' + i%26)})
		many.Stores = append(many.Stores, store(station, rec(station, 0, 0, 1)))
	}
	return []api.Archive{
		many, archive(store("A")), archive(store("A", rec("A", 0, 0))), archive(store("B", rec("A", 0, 0, 1))), archive(store("A", rec("A", 0, 0, 1), rec("B", 0, 0, 1))), archive(store("A", rec("A", 5, 0, 1), rec("A", 0, 0, 1))),
		archive(store("A", rec("A", 0, 0, 1), rec("A", 0, 0, 1))), archive(example().Stores[1], example().Stores[0]), archive(example().Stores[0], example().Stores[0]),
	}
}

var picking = api.Picking{Detector: api.Detector{Short: 1, Long: 4, On: 200, Off: 100}, Back: 2, Level: 100, Floor: 5}

func TestValid(t *testing.T) {
	if !Valid(example()) || !Valid(archive()) || !Valid(archive(invalid()[0].Stores[1:]...)) {
		t.Error("valid")
	}
	for i, a := range invalid() {
		if Valid(a) {
			t.Error(i)
		}
		if x, fresh, e := Add(a, rec("A", 0, 7, 1)); !Same(x, archive()) || fresh || e != api.ErrInvalid {
			t.Error(i, e)
		}
		if l, e := Request(a, "*", -1, 0, -1); l != nil || e != api.ErrInvalid {
			t.Error(i, e)
		}
		if l, e := Picks(a, picking, -1); l != nil || e != api.ErrInvalid {
			t.Error(i, e)
		}
		n := 0
		for _, s := range a.Stores {
			n += len(s.Records)
		}
		if len(All(a)) != n || Same(a, example()) || !Same(a, clone.Archive(a)) {
			t.Error(i)
		}
	}
}

func TestAdd(t *testing.T) {
	a := archive()
	records := All(example())
	slices.Reverse(records)
	for _, r := range records {
		next, fresh, e := Add(a, r)
		if !fresh || e != api.OK || !Valid(next) {
			t.Fatal(e)
		}
		again, fresh, e := Add(next, r)
		if fresh || e != api.OK || !Same(again, next) {
			t.Fatal(e)
		}
		again.Stores[0].Records[0].Samples[0] = 77
		if !Valid(next) || Same(again, next) {
			t.Fatal("memory is shared")
		}
		a = next
	}
	if !Same(a, example()) {
		t.Error(a)
	}
	full := invalid()[0]
	full.Stores = full.Stores[:api.MaxChannels]
	if x, fresh, e := Add(full, rec("ZZZ", 0, 0, 1)); !Same(x, archive()) || fresh || e != api.ErrLimit {
		t.Error(e)
	}
	if _, fresh, e := Add(full, rec("AA", 5, 0, 1)); !fresh || e != api.OK {
		t.Error(e)
	}
	long := store("A")
	for i := range api.MaxRecords {
		long.Records = append(long.Records, rec("A", 0, i, 1))
	}
	if _, _, e := Add(archive(long), rec("A", 5, 0, 1)); e != api.ErrLimit {
		t.Error(e)
	}
	if _, fresh, e := Add(archive(long), long.Records[7]); fresh || e != api.OK {
		t.Error(e)
	}
	if _, _, e := Add(example(), rec("A", 5, 0)); e != api.ErrInvalid {
		t.Error(e)
	}
}

func TestRecords(t *testing.T) {
	a := example()
	if got := Records(a, id("B")); !slices.EqualFunc(got, a.Stores[1].Records, record.Same) {
		t.Error(got)
	}
	if got := Records(a, id("C")); len(got) != 0 {
		t.Error(got)
	}
	if got := All(a); !slices.EqualFunc(got, slices.Concat(a.Stores[0].Records, a.Stores[1].Records), record.Same) {
		t.Error(got)
	}
	All(a)[0].Samples[0] = 77
	Records(a, id("A"))[0].Samples[0] = 77
	if !Same(a, example()) {
		t.Error("memory is shared")
	}
}

func TestRequest(t *testing.T) {
	a := example()
	got, e := Request(a, "GR.*.*.*", 500, 9500, 5)
	if len(got) != 2 || e != api.OK {
		t.Fatal(got, e)
	}
	for i, s := range a.Stores {
		segments, _ := continuity.Segments(s.Records, 5)
		segments, _ = continuity.Window(segments, 500, 9500)
		gaps, _ := continuity.Gaps(s.Records, 500, 9500)
		overlaps, _ := continuity.Overlaps(s.Records, 500, 9500)
		if want := (api.Answer{Source: s.Source, Segments: segments, Gaps: gaps, Overlaps: overlaps}); !reflect.DeepEqual(got[i], want) {
			t.Error(got[i], want)
		}
	}
	if len(got[1].Overlaps) == 0 || len(got[1].Gaps) != 1 {
		t.Error(got[1])
	}
	got, e = Request(a, "*.B.*.*", 100000, 200000, 0)
	if want := []api.Answer{{Source: id("B"), Gaps: []api.Span{{From: 100000, To: 200000}}}}; len(got) != 1 || got[0].Source != id("B") || len(got[0].Segments) != 0 || !slices.Equal(got[0].Gaps, want[0].Gaps) || e != api.OK {
		t.Error(got, e)
	}
	if got, e := Request(a, "XX.*.*.*", 0, 0, 0); len(got) != 0 || e != api.OK {
		t.Error(got, e)
	}
	for i, c := range []struct {
		pattern             string
		from, to, tolerance int
		want                api.Errno
	}{
		{"*", -1, 0, -1, api.ErrFormat}, {"XX.*.*.*", -1, 0, 0, api.ErrRange}, {"*.*.*.*", 5, 4, 0, api.ErrRange}, {"*.*.*.*", 0, api.MaxTime + 1, 0, api.ErrRange}, {"*.*.*.*", 0, 1, -1, api.ErrRange}, {"*.*.*.*", 0, 1, api.Second + 1, api.ErrRange}, {"*.*.*.*", 0, api.MaxTime, api.Second, api.OK},
	} {
		for _, a := range []api.Archive{a, archive()} {
			if l, e := Request(a, c.pattern, c.from, c.to, c.tolerance); e != c.want || e != api.OK && l != nil {
				t.Error(i, e)
			}
		}
	}
	x, y := rec("A", 0, 0), rec("A", 0, 1)
	for i := range api.MaxSpans + 1 {
		x.Samples, y.Samples = append(x.Samples, 0), append(y.Samples, i%2)
	}
	if l, e := Request(archive(store("A", x, y)), "*.*.*.*", 0, api.MaxTime, 0); l != nil || e != api.ErrLimit {
		t.Error(e)
	}
	if l, e := Request(archive(store("A", x, y)), "B.*.*.*", 0, api.MaxTime, 0); len(l) != 0 || e != api.OK {
		t.Error(e)
	}
}

func TestPicks(t *testing.T) {
	got, e := Picks(example(), picking, 0)
	var want []api.Pick
	for _, s := range example().Stores {
		segments, _ := continuity.Segments(s.Records, 0)
		more, _ := picker.Run(picking, s.Source, segments)
		want = append(want, more...)
	}
	if len(got) != 2 || !slices.Equal(got, picker.Sort(want)) || e != api.OK {
		t.Error(got, e)
	}
	bad := picking
	bad.Back = -1
	if l, e := Picks(example(), bad, -1); l != nil || e != api.ErrInvalid {
		t.Error(e)
	}
	for _, tolerance := range []int{-1, api.Second + 1} {
		for _, a := range []api.Archive{example(), archive()} {
			if l, e := Picks(a, picking, tolerance); l != nil || e != api.ErrRange {
				t.Error(e)
			}
		}
	}
	many := rec("B", 0, 0, slices.Repeat([]int{0, 0, 0, 7}, api.MaxTriggers+1)...)
	if l, e := Picks(archive(example().Stores[0], store("B", many)), picking, 0); l != nil || e != api.ErrLimit {
		t.Error(e)
	}
}

func TestOrderOfArrival(t *testing.T) {
	r := rand.New(rand.NewSource(38))
	for range 50 {
		var l []api.Record
		for range 12 {
			x := rec(string([]byte{byte('A' + r.Intn(4))}), 1000*r.Intn(8), r.Intn(3))
			for range 1 + r.Intn(5) {
				x.Samples = append(x.Samples, r.Intn(3))
			}
			l = append(l, x)
		}
		build := func() api.Archive {
			var a api.Archive
			for _, x := range l {
				a, _, _ = Add(a, x)
			}
			return a
		}
		a := build()
		r.Shuffle(len(l), func(i, k int) { l[i], l[k] = l[k], l[i] })
		if !Same(a, build()) || !Valid(a) {
			t.Fatal(l)
		}
		for _, s := range a.Stores {
			if order, _ := compose.Order(s.Records); !slices.EqualFunc(order, s.Records, record.Same) {
				t.Fatal(s)
			}
		}
	}
}
