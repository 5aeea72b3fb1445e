package continuity

import (
	"math/rand"
	"reflect"
	"slices"
	"testing"

	"seismonet/api"
	"seismonet/compose"
	"seismonet/record"
	"seismonet/span"
)

func rec(start, seq int, samples ...int) api.Record {
	return api.Record{Source: api.SourceID{Network: "GR", Station: "FUR", Channel: "HHZ"}, Rate: api.Rate{Num: 1000, Den: 1}, Start: start, Seq: seq, Samples: samples}
}

func random(r *rand.Rand) []api.Record {
	var l []api.Record
	for range r.Intn(7) {
		x := rec(r.Intn(9), r.Intn(3))
		x.Start *= 1000
		x.Error, x.First = r.Intn(2), r.Intn(2)
		if r.Intn(4) == 0 {
			x.Rate.Num = 500
		}
		if r.Intn(4) == 0 {
			x.Start += r.Intn(900)
		}
		for range 1 + r.Intn(6) {
			x.Samples = append(x.Samples, r.Intn(4)/3)
		}
		l = append(l, x)
	}
	return l
}

// cover returns the times and values of the samples that cover t, one for each record of the list.
func cover(l []api.Record, t int) [][2]int {
	var found [][2]int
	order, _ := compose.Order(l)
	for _, x := range order {
		for i, v := range x.Samples {
			from, _ := record.At(x, i)
			to, _ := record.At(x, i+1)
			if from <= t && t < to {
				found = append(found, [2]int{from, v})
			}
		}
	}
	return found
}

func TestExamples(t *testing.T) {
	l := []api.Record{rec(0, 0, 1), rec(20000, 0, 1)}
	l[0].Rate.Num, l[1].Rate.Num = 100, 100
	if got, e := Gaps(l, 0, 30000); !slices.Equal(got, []api.Span{{From: 10000, To: 20000}}) || e != api.OK {
		t.Error(got, e)
	}
	if got, e := Gaps(nil, 5, 9); !slices.Equal(got, []api.Span{{From: 5, To: 9}}) || e != api.OK {
		t.Error(got, e)
	}
	if got, e := Gaps(nil, 5, 5); len(got) != 0 || e != api.OK {
		t.Error(got, e)
	}
	if Depth([]api.Record{l[0], l[0]}, 5) != 1 || Depth([]api.Record{l[0], rec(0, 0)}, 5) != 0 {
		t.Error("Depth")
	}
	two := []api.Record{rec(0, 1, 4, 5), rec(0, 2, 4, 5)}
	if got, e := Overlaps(two, 500, 9999); !slices.Equal(got, []api.Overlap{{From: 500, To: 2000, Same: true}}) || e != api.OK {
		t.Error(got, e)
	}
	two[1].Samples[1] = 6
	if got, _ := Overlaps(two, 0, 9999); !slices.Equal(got, []api.Overlap{{From: 0, To: 1000, Same: true}, {From: 1000, To: 2000}}) {
		t.Error(got)
	}
}

func TestErrors(t *testing.T) {
	bad := []api.Record{rec(0, 0)}
	if _, e := Gaps(bad, -1, 0); e != api.ErrInvalid {
		t.Error(e)
	}
	if _, e := Overlaps(bad, -1, 0); e != api.ErrInvalid {
		t.Error(e)
	}
	if _, e := Segments(bad, -1); e != api.ErrInvalid {
		t.Error(e)
	}
	for _, w := range [][2]int{{-1, 0}, {2, 1}, {0, api.MaxTime + 1}} {
		if l, e := Gaps(nil, w[0], w[1]); l != nil || e != api.ErrRange {
			t.Error(w, e)
		}
		if l, e := Overlaps(nil, w[0], w[1]); l != nil || e != api.ErrRange {
			t.Error(w, e)
		}
		if l, e := Window(nil, w[0], w[1]); l != nil || e != api.ErrRange {
			t.Error(w, e)
		}
		if _, e := Window([]api.Segment{{}}, w[0], w[1]); e != api.ErrInvalid {
			t.Error(w, e)
		}
	}
	for _, tolerance := range []int{-1, api.Second + 1} {
		if _, e := Segments(nil, tolerance); e != api.ErrRange {
			t.Error(tolerance, e)
		}
	}
}

func TestRandomLists(t *testing.T) {
	r := rand.New(rand.NewSource(9))
	for range 1500 {
		l := random(r)
		from := r.Intn(5000)
		to := from + r.Intn(12000)
		gaps, e := Gaps(l, from, to)
		parts, f := Overlaps(l, from, to)
		if e != api.OK || f != api.OK || !span.Valid(gaps) {
			t.Fatal(e, f)
		}
		for i, p := range parts {
			if p.From >= p.To || i > 0 && (parts[i-1].To > p.From || parts[i-1].To == p.From && parts[i-1].Same == p.Same) {
				t.Fatal(l, parts)
			}
		}
		for range 60 {
			at := r.Intn(20) * 1000
			if r.Intn(2) == 0 {
				at += r.Intn(1000)
			}
			found := cover(l, at)
			if Depth(l, at) != len(found) {
				t.Fatal("Depth", l, at)
			}
			inside := from <= at && at < to
			if span.Has(gaps, at) != (inside && len(found) == 0) {
				t.Fatal("Gaps", l, at)
			}
			has, agrees := false, false
			for _, p := range parts {
				if p.From <= at && at < p.To {
					has, agrees = true, p.Same
				}
			}
			all := true
			for _, x := range found {
				all = all && x == found[0]
			}
			if has != (inside && len(found) > 1) || has && agrees != all {
				t.Fatal("Overlaps", l, from, to, at, parts, found)
			}
		}
	}
}

func TestManyOverlaps(t *testing.T) {
	a, b := rec(0, 0), rec(0, 1)
	for i := range api.MaxSpans {
		a.Samples, b.Samples = append(a.Samples, 0), append(b.Samples, i%2)
	}
	if got, e := Overlaps([]api.Record{a, b}, 0, api.MaxTime); len(got) != api.MaxSpans || e != api.OK {
		t.Error(len(got), e)
	}
	a.Samples, b.Samples = append(a.Samples, 0), append(b.Samples, 0)
	if got, e := Overlaps([]api.Record{a, b}, 0, api.MaxTime); got != nil || e != api.ErrLimit {
		t.Error(len(got), e)
	}
}

func segment(start, bound int, samples ...int) api.Segment {
	return api.Segment{Start: start, Rate: api.Rate{Num: 1000, Den: 1}, Error: bound, Samples: samples}
}

func TestSegments(t *testing.T) {
	slow := rec(4003, 0, 7)
	slow.Rate.Num = 500
	a, b, c := rec(0, 0, 1, 2), rec(2002, 0, 3), rec(2999, 0, 4)
	b.Error, c.Error = 5, 4
	for i, x := range []struct {
		l         []api.Record
		tolerance int
		want      []api.Segment
	}{
		{nil, 0, nil},
		{[]api.Record{c, b, a}, 3, []api.Segment{segment(0, 0, 1, 2), segment(2999, 4, 4)}},
		{[]api.Record{a, b}, 2, []api.Segment{segment(0, 7, 1, 2, 3)}},
		{[]api.Record{a, b}, 1, []api.Segment{segment(0, 0, 1, 2), segment(2002, 5, 3)}},
		{[]api.Record{a, rec(2000, 0, 8), rec(2998, 1, 9)}, 2, []api.Segment{segment(0, 0, 1, 2), segment(2998, 0, 9)}},
		{[]api.Record{rec(0, 0, 1), rec(999, 1, 2), rec(1999, 1, 3)}, 0, []api.Segment{segment(999, 0, 2, 3)}},
		{[]api.Record{rec(0, 0, 1), rec(1001, 0, 2), rec(2003, 0, 3), slow}, 3, []api.Segment{segment(0, 3, 1, 2, 3), {Start: 4003, Rate: api.Rate{Num: 500, Den: 1}, Samples: []int{7}}}},
	} {
		got, e := Segments(x.l, x.tolerance)
		if !slices.EqualFunc(got, x.want, func(a, b api.Segment) bool { return reflect.DeepEqual(a, b) }) || e != api.OK {
			t.Error(i, got, e)
		}
	}
}

func TestSegmentsWithinLimits(t *testing.T) {
	long := rec(0, 0, make([]int, api.MaxLength)...)
	next := rec(api.MaxLength*1000, 0, 1)
	if got, _ := Segments([]api.Record{long, next}, 0); len(got) != 2 {
		t.Error(len(got))
	}
	long.Samples = long.Samples[1:]
	next.Start -= 1000
	if got, _ := Segments([]api.Record{long, next}, 0); len(got) != 1 || !ValidSegment(got[0]) {
		t.Error(len(got))
	}
	late := rec(0, 0, 1)
	late.First = api.MaxIndex - 2
	after := rec((api.MaxIndex-1)*1000, 0, 1)
	if got, _ := Segments([]api.Record{late, after}, 0); len(got) != 1 {
		t.Error(len(got))
	}
	late.First++
	after.Start += 1000
	if got, _ := Segments([]api.Record{late, after}, 0); len(got) != 2 {
		t.Error(len(got))
	}
	worst := rec(0, 0, 1)
	worst.Error = api.MaxError
	if got, _ := Segments([]api.Record{worst, rec(1001, 0, 1)}, 1); len(got) != 1 || got[0].Error != api.MaxError {
		t.Error(got)
	}
}

// Times are rounded down, so a segment may end a microsecond behind the end of its last record.
func TestSegmentEndBehindMaxTime(t *testing.T) {
	for behind, want := range []int{2, 1} {
		a := rec(api.MaxTime-1333332-behind, 0, 1, 2)
		b := rec(api.MaxTime-666666-behind, 0, 3, 4)
		a.Rate.Num, b.Rate.Num = 3, 3
		if got, e := Segments([]api.Record{a, b}, 0); len(got) != want || e != api.OK {
			t.Error(behind, got, e)
		}
	}
}

func TestSegmentsOfRandomLists(t *testing.T) {
	r := rand.New(rand.NewSource(10))
	for range 300 {
		l := random(r)
		composed, _ := compose.Compose(l)
		segments, e := Segments(l, 0)
		var want, got []int
		for _, x := range composed {
			want = append(want, x.Samples...)
		}
		for _, s := range segments {
			got = append(got, s.Samples...)
			if !ValidSegment(s) {
				t.Fatal(s)
			}
		}
		if e != api.OK || !slices.Equal(got, want) {
			t.Fatal(l, got, want)
		}
	}
}

func TestWindow(t *testing.T) {
	s := segment(1000, 3, 1, 2, 3, 4)
	s.First = 1
	if got, e := SegmentSpan(s); got != (api.Span{From: 2000, To: 6000}) || e != api.OK || !ValidSegment(s) {
		t.Error(got, e)
	}
	if got, e := SegmentSpan(api.Segment{}); got != (api.Span{}) || e != api.ErrInvalid || ValidSegment(api.Segment{}) {
		t.Error(got, e)
	}
	got, e := Window([]api.Segment{s, segment(0, 0, 9), segment(6000, 0, 5, 6)}, 2500, 7000)
	want := []api.Segment{segment(1000, 3, 2, 3, 4), segment(6000, 0, 5)}
	want[0].First = 2
	if !reflect.DeepEqual(got, want) || e != api.OK {
		t.Error(got, e)
	}
	got[0].Samples[0] = 77
	if s.Samples[1] != 2 {
		t.Error("memory is shared")
	}
	if got, e := Window([]api.Segment{s}, 3000, 3000); len(got) != 0 || e != api.OK {
		t.Error(got, e)
	}
	bad := s
	bad.Error = -1
	if _, e := Window([]api.Segment{s, bad}, 0, 1); e != api.ErrInvalid || ValidSegment(bad) {
		t.Error(e)
	}
}
