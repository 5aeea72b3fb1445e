package record

import (
	"reflect"
	"slices"
	"testing"

	"seismonet/api"
)

const (
	least    = -1 << 63
	greatest = 1<<63 - 1
)

func example() api.Record {
	return api.Record{Source: api.SourceID{Network: "GR", Station: "FUR", Channel: "HHZ"}, Rate: api.Rate{Num: 3, Den: 1}, Samples: []int{7, -8, 9, 4}}
}

func with(f func(r *api.Record)) api.Record {
	r := example()
	f(&r)
	return r
}

func invalid() []api.Record {
	return []api.Record{
		{}, with(func(r *api.Record) { r.Source.Channel = "" }), with(func(r *api.Record) { r.Rate.Num = 0 }), with(func(r *api.Record) { r.Rate = api.Rate{Num: 2, Den: 4} }),
		with(func(r *api.Record) { r.Start = -1 }), with(func(r *api.Record) { r.Start = api.MaxTime + 1 }), with(func(r *api.Record) { r.Start = api.MaxTime - 1333332 }),
		with(func(r *api.Record) { r.First = -1 }), with(func(r *api.Record) { r.First = api.MaxIndex - 3 }), with(func(r *api.Record) { r.First = greatest }),
		with(func(r *api.Record) { r.Samples = nil }), with(func(r *api.Record) { r.Samples = make([]int, api.MaxLength+1) }),
		with(func(r *api.Record) { r.Samples[3] = api.MaxSample + 1 }), with(func(r *api.Record) { r.Samples[0] = -api.MaxSample - 1 }),
		with(func(r *api.Record) { r.Error = -1 }), with(func(r *api.Record) { r.Error = api.MaxError + 1 }), with(func(r *api.Record) { r.Run = -1 }),
		with(func(r *api.Record) { r.Run = api.MaxRun + 1 }), with(func(r *api.Record) { r.Seq = -1 }), with(func(r *api.Record) { r.Seq = api.MaxSeq + 1 }),
	}
}

func TestValid(t *testing.T) {
	for i, r := range []api.Record{
		example(), with(func(r *api.Record) { r.Start = api.MaxTime - 1333333 }), with(func(r *api.Record) { r.First = api.MaxIndex - 4 }),
		with(func(r *api.Record) {
			r.Samples, r.Error, r.Run, r.Seq = make([]int, api.MaxLength), api.MaxError, api.MaxRun, api.MaxSeq
		}),
		with(func(r *api.Record) { r.Samples = []int{api.MaxSample, -api.MaxSample} }),
		with(func(r *api.Record) { r.Samples = []int{1} }),
	} {
		if !Valid(r) {
			t.Error(i)
		}
	}
	for i, r := range invalid() {
		if Valid(r) || Follows(r, r, 9999999) || Follows(example(), r, api.MaxTime) || Follows(r, example(), api.MaxTime) {
			t.Error(i)
		}
		if s, e := Span(r); s != (api.Span{}) || e != api.ErrInvalid {
			t.Error(i, e)
		}
		if n, e := At(r, -1); n != 0 || e != api.ErrInvalid {
			t.Error(i, e)
		}
		if s, e := Sub(r, 0, 0); !Same(s, api.Record{}) || e != api.ErrInvalid {
			t.Error(i, e)
		}
		if s, ok, e := Cut(r, 0, 1); !Same(s, api.Record{}) || ok || e != api.ErrInvalid {
			t.Error(i, e)
		}
		if s, ok, e := Inside(r, 0, 1); !Same(s, api.Record{}) || ok || e != api.ErrInvalid {
			t.Error(i, e)
		}
	}
}

func TestTimes(t *testing.T) {
	r := example()
	if s, e := Span(r); s != (api.Span{From: 0, To: 1333333}) || e != api.OK {
		t.Error(s, e)
	}
	for i, want := range []int{0, 333333, 666666, 1000000, 1333333} {
		if n, e := At(r, i); n != want || e != api.OK {
			t.Error(i, n, e)
		}
	}
	for _, i := range []int{-1, 5, least, greatest} {
		if n, e := At(r, i); n != 0 || e != api.ErrRange {
			t.Error(i, n, e)
		}
	}
}

func TestSub(t *testing.T) {
	r := with(func(r *api.Record) { r.First, r.Start = 5, 10 })
	s, e := Sub(r, 2, 4)
	want := r
	want.First, want.Samples = 7, []int{9, 4}
	if !Same(s, want) || e != api.OK {
		t.Error(s, e)
	}
	for i := range 3 {
		a, _ := At(r, 2+i)
		if b, _ := At(s, i); a != b {
			t.Error(i, a, b)
		}
	}
	s.Samples[0] = 77
	if r.Samples[2] != 9 {
		t.Error("memory is shared")
	}
	for _, c := range [][2]int{{-1, 2}, {2, 2}, {3, 2}, {0, 5}, {least, greatest}, {4, 5}} {
		if s, e := Sub(r, c[0], c[1]); !Same(s, api.Record{}) || e != api.ErrRange {
			t.Error(c, s, e)
		}
	}
}

func TestCutAndInside(t *testing.T) {
	r := example()
	times := []int{least, -1, 0, 1, 333332, 333333, 333334, 666665, 666666, 999999, 1000000, 1000001, 1333332, 1333333, 1333334, greatest}
	for _, from := range times {
		for _, to := range times {
			var cut, inside []int
			for i := range r.Samples {
				at, _ := At(r, i)
				next, _ := At(r, i+1)
				if at >= from && at < to {
					cut = append(cut, r.Samples[i])
				}
				if at >= from && next <= to {
					inside = append(inside, r.Samples[i])
				}
			}
			checkPart(t, r, cut, from, to, Cut)
			checkPart(t, r, inside, from, to, Inside)
		}
	}
}

func checkPart(t *testing.T, r api.Record, want []int, from, to int, f func(r api.Record, from, to int) (api.Record, bool, api.Errno)) {
	t.Helper()
	got, ok, e := f(r, from, to)
	if e != api.OK || ok != (len(want) > 0) || !slices.Equal(got.Samples, want) {
		t.Fatal(from, to, got, ok, e)
	}
	if ok {
		first := slices.Index(r.Samples, want[0])
		again, _ := Sub(r, first, first+len(want))
		if !Same(got, again) {
			t.Fatal(from, to, got)
		}
	}
}

func TestFollows(t *testing.T) {
	a := example()
	for i, c := range []struct {
		b         api.Record
		tolerance int
		want      bool
	}{
		{with(func(r *api.Record) { r.Start = 1333333 }), 0, true}, {with(func(r *api.Record) { r.First = 4 }), 0, true}, {with(func(r *api.Record) { r.Start = 1333335 }), 1, false},
		{with(func(r *api.Record) { r.Start = 1333335 }), 2, true}, {with(func(r *api.Record) { r.Start = 1333331 }), 2, true}, {with(func(r *api.Record) { r.Start = 1333331 }), 1, false},
		{with(func(r *api.Record) { r.First = 4 }), -1, false}, {with(func(r *api.Record) { r.First = 4 }), api.MaxTime + 1, false}, {with(func(r *api.Record) { r.First = 4 }), api.MaxTime, true},
		{with(func(r *api.Record) { r.First, r.Source.Location = 4, "00" }), 0, false}, {with(func(r *api.Record) { r.Start, r.Rate.Num = 1333333, 1 }), 0, false},
	} {
		if Follows(a, c.b, c.tolerance) != c.want {
			t.Error(i)
		}
	}
}

func TestOrders(t *testing.T) {
	ascending := []api.Record{
		with(func(r *api.Record) { r.Source.Network, r.Start = "A", 99 }),
		with(func(r *api.Record) { r.Start, r.Samples = -1, nil }),
		example(),
		with(func(r *api.Record) { r.Samples[3] = 5 }),
		with(func(r *api.Record) { r.Samples = append(r.Samples, -9) }),
		with(func(r *api.Record) { r.Seq = 1 }),
		with(func(r *api.Record) { r.Run = 1 }),
		with(func(r *api.Record) { r.Error = 1 }),
		with(func(r *api.Record) { r.Rate.Den = 2 }),
		with(func(r *api.Record) { r.Rate.Num = 4 }),
		with(func(r *api.Record) { r.First = 3 }),
		with(func(r *api.Record) { r.Start = 1000000 }),
		with(func(r *api.Record) { r.Start = 1000001 }),
		with(func(r *api.Record) { r.Source.Channel = "HHZZ" }),
	}
	for i, a := range ascending {
		for k, b := range ascending {
			want := 0
			if i < k {
				want = -1
			} else if i > k {
				want = 1
			}
			if got := Compare(a, b); got != want {
				t.Error(i, k, got)
			}
			if Same(a, b) != (i == k) {
				t.Error(i, k)
			}
			if i != k && Better(a, b) == Better(b, a) || i == k && Better(a, b) {
				t.Error(i, k)
			}
		}
	}
	better := []api.Record{
		with(func(r *api.Record) { r.Run, r.Seq = 2, 1 }), with(func(r *api.Record) { r.Run, r.Seq = 1, 9 }), with(func(r *api.Record) { r.Run, r.Seq = 1, 8 }),
		with(func(r *api.Record) { r.Run, r.Seq, r.Start = 1, 8, 1 }), with(func(r *api.Record) { r.Run, r.Seq, r.Error = 5, 5, 1 }),
	}
	for i, a := range better {
		for k, b := range better {
			if Better(a, b) != (i < k) {
				t.Error(i, k)
			}
		}
	}
	if !reflect.DeepEqual(example(), example()) {
		t.Error("example")
	}
}

// The time of the first sample counts ahead of Start, and as 0 for invalid records.
func TestCompareByTime(t *testing.T) {
	early, late := with(func(r *api.Record) { r.Start = 10 }), with(func(r *api.Record) { r.First = 3 })
	none := with(func(r *api.Record) { r.Start, r.Samples = 500, nil })
	if Compare(early, late) != -1 || Compare(late, early) != 1 || Compare(none, early) != -1 || Compare(early, none) != 1 {
		t.Error(Compare(early, late), Compare(none, early))
	}
}
