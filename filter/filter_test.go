package filter

import (
	"math/rand"
	"reflect"
	"slices"
	"testing"

	"seismonet/api"
	"seismonet/rate"
)

func filter(factor, shift int, taps ...int) api.Filter {
	return api.Filter{Taps: taps, Factor: factor, Shift: shift}
}

func invalid() []api.Filter {
	return []api.Filter{
		{}, filter(1, 0), filter(1, 7, slices.Repeat([]int{1}, 129)...), filter(1, 0, 1, -1), filter(1, 1, -3), filter(1, -1, 0), filter(1, 31, 1), filter(0, 0, 1), filter(65, 0, 1),
		filter(1, 30, -1<<63, 1), filter(1, 30, 1<<62, 1<<62, 1<<62, 1<<62), filter(1, 63, 1),
	}
}

func random(r *rand.Rand, n int) []int {
	l := make([]int, n)
	for i := range l {
		l[i] = r.Intn(2*api.MaxSample+1) - api.MaxSample
	}
	return l
}

func randomFilter(r *rand.Rand) api.Filter {
	f := filter(1+r.Intn(4), 5)
	for range 1 + r.Intn(8) {
		f.Taps = append(f.Taps, r.Intn(9)-4)
	}
	return f
}

func TestValid(t *testing.T) {
	for i, f := range []api.Filter{filter(1, 0, 0), filter(64, 30, 1<<30), filter(1, 7, slices.Repeat([]int{-1}, 128)...), filter(1, 1, 1, -1)} {
		if !Valid(f) {
			t.Error(i)
		}
	}
	for i, f := range invalid() {
		if Valid(f) || ValidFeed(api.Feed{Filter: f}) {
			t.Error(i)
		}
		if l, e := Apply(f, nil, -1); l != nil || e != api.ErrInvalid {
			t.Error(i, e)
		}
		if d, e := Start(f, -1); !reflect.DeepEqual(d, api.Feed{}) || e != api.ErrInvalid {
			t.Error(i, e)
		}
		if d, l, e := Push(api.Feed{Filter: f}, nil); !reflect.DeepEqual(d, api.Feed{}) || l != nil || e != api.ErrInvalid {
			t.Error(i, e)
		}
		if _, ok, e := Segment(f, segment(1, 2)); ok || e != api.ErrInvalid {
			t.Error(i, e)
		}
		if _, e := Segments(f, nil); e != api.ErrInvalid {
			t.Error(i, e)
		}
		if _, e := Convolve(f, filter(2, 0, 1)); e != api.ErrInvalid {
			t.Error(i, e)
		}
		if _, e := Convolve(filter(2, 0, 1), f); e != api.ErrInvalid {
			t.Error(i, e)
		}
	}
}

func TestApply(t *testing.T) {
	for i, c := range []struct {
		f       api.Filter
		samples []int
		number  int
		want    []int
		e       api.Errno
	}{
		{filter(1, 1, 1, 1), []int{4, 6, 9}, 0, []int{5, 7}, api.OK}, {filter(2, 1, 1, 1), []int{4, 6, 9}, 10, []int{7}, api.OK}, {filter(2, 1, 1, 1), []int{4, 6, 9}, 11, []int{5}, api.OK},
		{filter(1, 1, 1, 1), []int{-4, -5}, 0, []int{-5}, api.OK}, {filter(1, 2, 3, 1), []int{1, 2, 4}, 0, []int{1, 3}, api.OK}, {filter(1, 1, 1, 1), []int{4}, 0, nil, api.OK}, {filter(1, 1, 1, 1), nil, 1 << 53, nil, api.OK},
		{filter(1, 5, 32), []int{api.MaxSample, -api.MaxSample}, 3, []int{api.MaxSample, -api.MaxSample}, api.OK}, {filter(3, 0, 1), []int{0, 1, 2, 3, 4, 5, 6}, 1 << 53, []int{1, 4}, api.OK},
		{filter(1, 0, 1), nil, -1, nil, api.ErrRange}, {filter(1, 0, 1), nil, 1<<53 + 1, nil, api.ErrRange}, {filter(1, 0, 1), []int{api.MaxSample + 1}, 0, nil, api.ErrRange}, {filter(1, 0, 1), []int{-api.MaxSample - 1}, 0, nil, api.ErrRange},
		{filter(1, 0, 1), make([]int, api.MaxLength+1), 0, nil, api.ErrLimit}, {filter(1, 0, 1), append(make([]int, api.MaxLength), -1<<63), 0, nil, api.ErrRange},
	} {
		if got, e := Apply(c.f, c.samples, c.number); !slices.Equal(got, c.want) || e != c.e {
			t.Error(i, got, e)
		}
	}
	if got, e := Apply(filter(1, 30, slices.Repeat([]int{-1 << 23}, 128)...), slices.Repeat([]int{api.MaxSample}, api.MaxLength), 0); len(got) != api.MaxLength-127 || got[0] != -api.MaxSample || e != api.OK {
		t.Error(len(got), e)
	}
}

func TestFeeds(t *testing.T) {
	r := rand.New(rand.NewSource(15))
	for range 300 {
		f := randomFilter(r)
		samples := random(r, r.Intn(60))
		number := r.Intn(100)
		want, _ := Apply(f, samples, number)
		d, e := Start(f, number)
		if e != api.OK || !ValidFeed(d) {
			t.Fatal(e)
		}
		var got []int
		for at := 0; at < len(samples); {
			n := min(r.Intn(9), len(samples)-at)
			next, l, e := Push(d, samples[at:at+n])
			if e != api.OK || !ValidFeed(next) || next.Number != number+at+n || len(next.Past) != min(at+n, len(f.Taps)-1) || !slices.Equal(next.Past, samples[at+n-len(next.Past):at+n]) {
				t.Fatal(next, e)
			}
			got = append(got, l...)
			d = next
			at += n
		}
		if !slices.Equal(got, want) {
			t.Fatal(f, samples, number, got, want)
		}
	}
}

func TestFeedErrors(t *testing.T) {
	f := filter(1, 1, 1, 1)
	for _, n := range []int{-1, 1<<53 + 1} {
		if d, e := Start(f, n); !reflect.DeepEqual(d, api.Feed{}) || e != api.ErrRange {
			t.Error(n, e)
		}
	}
	for i, c := range []struct {
		d    api.Feed
		want bool
	}{
		{api.Feed{Filter: f}, true}, {api.Feed{Filter: f, Past: []int{5}, Number: 1}, true}, {api.Feed{Filter: f, Past: []int{5}, Number: 0}, false}, {api.Feed{Filter: f, Past: []int{5, 6}, Number: 9}, false},
		{api.Feed{Filter: f, Past: []int{1 << 30}, Number: 9}, false}, {api.Feed{Filter: f, Number: 1 << 54}, true}, {api.Feed{Filter: f, Number: 1<<54 + 1}, false}, {api.Feed{Filter: f, Number: -1}, false},
	} {
		if ValidFeed(c.d) != c.want {
			t.Error(i)
		}
		if _, _, e := Push(c.d, []int{0}); (e == api.OK) != c.want || !c.want && e != api.ErrInvalid {
			t.Error(i, e)
		}
	}
	if d, l, e := Push(api.Feed{Filter: f}, append(make([]int, api.MaxLength), 1<<30)); !reflect.DeepEqual(d, api.Feed{}) || l != nil || e != api.ErrRange {
		t.Error(e)
	}
	if _, _, e := Push(api.Feed{Filter: f}, make([]int, api.MaxLength+1)); e != api.ErrLimit {
		t.Error(e)
	}
	d, _, e := Push(api.Feed{Filter: f}, make([]int, api.MaxLength))
	if e != api.OK || d.Number != api.MaxLength {
		t.Error(e)
	}
	d.Filter.Taps[0], d.Past[0] = 9, 9
	if f.Taps[0] != 1 {
		t.Error("memory is shared")
	}
}

func segment(samples ...int) api.Segment {
	return api.Segment{Start: 5000000, First: 1, Rate: api.Rate{Num: 2, Den: 1}, Error: 3, Samples: samples}
}

func TestSegment(t *testing.T) {
	f := filter(2, 1, 1, 1)
	got, ok, e := Segment(f, segment(4, 6, 9, 1)) // the numbers are 11 to 14
	want := api.Segment{Start: 6000000, Rate: api.Rate{Num: 1, Den: 1}, Error: 4, Samples: []int{5, 5}}
	if !reflect.DeepEqual(got, want) || !ok || e != api.OK {
		t.Error(got, ok, e)
	}
	if got, ok, e := Segment(f, segment(4)); !reflect.DeepEqual(got, api.Segment{}) || ok || e != api.OK {
		t.Error(got, ok, e)
	}
	worst := segment(4, 6)
	worst.Error = api.MaxError
	if got, _, _ := Segment(f, worst); got.Error != api.MaxError {
		t.Error(got)
	}
	slow := segment(4, 6)
	slow.Rate = api.Rate{Num: 1, Den: 4096}
	if got, ok, e := Segment(f, slow); !reflect.DeepEqual(got, api.Segment{}) || ok || e != api.ErrLimit {
		t.Error(got, ok, e)
	}
	for _, s := range []api.Segment{{}, segment(), segment(1 << 30)} {
		if got, ok, e := Segment(f, s); !reflect.DeepEqual(got, api.Segment{}) || ok || e != api.ErrInvalid {
			t.Error(got, ok, e)
		}
		if got, e := Segments(f, []api.Segment{slow, s}); got != nil || e != api.ErrInvalid {
			t.Error(got, e)
		}
	}
	if got, e := Segments(f, []api.Segment{segment(1, 2), slow}); got != nil || e != api.ErrLimit {
		t.Error(got, e)
	}
	list, e := Segments(f, []api.Segment{segment(4), segment(4, 6, 9, 1), segment(4, 6)})
	if len(list) != 2 || !reflect.DeepEqual(list[0], want) || !slices.Equal(list[1].Samples, []int{5}) || e != api.OK {
		t.Error(list, e)
	}
}

// Which outputs are kept depends on the times of the samples alone.
func TestSegmentsOfOneGrid(t *testing.T) {
	r := rand.New(rand.NewSource(16))
	for range 100 {
		f := randomFilter(r)
		s := segment(random(r, 50)...)
		s.Rate = api.Rate{Num: 100, Den: 3}
		s.Start = 86400 * api.Second
		whole, _, _ := Segment(f, s)
		cut := s
		n := r.Intn(30)
		cut.First += n
		cut.Samples = s.Samples[n:]
		part, ok, e := Segment(f, cut)
		if e != api.OK || !ok {
			t.Fatal(ok, e)
		}
		if m := len(part.Samples); !slices.Equal(part.Samples, whole.Samples[len(whole.Samples)-m:]) {
			t.Fatal(part, whole)
		}
		first, _ := rate.Time(s.Start, s.Rate, s.First+n+len(f.Taps)-1)
		if last, _ := rate.Time(part.Start, part.Rate, 0); last < first {
			t.Fatal(part)
		}
	}
}

func TestConvolve(t *testing.T) {
	got, e := Convolve(filter(1, 2, 1, -2), filter(1, 3, 3, 4, 1))
	if !reflect.DeepEqual(got, filter(1, 5, 3, -2, -7, -2)) || e != api.OK {
		t.Error(got, e)
	}
	for i, c := range []struct {
		a, b api.Filter
		want api.Errno
	}{
		{filter(2, 0, 1), filter(1, 0, 1), api.ErrState}, {filter(1, 0, 1), filter(2, 0, 1), api.ErrState}, {filter(1, 15, 1), filter(1, 16, 1), api.ErrLimit}, {filter(1, 15, 1), filter(1, 15, 1), api.OK},
		{filter(1, 7, make([]int, 64)...), filter(1, 7, make([]int, 66)...), api.ErrLimit}, {filter(1, 7, make([]int, 64)...), filter(1, 7, make([]int, 65)...), api.OK},
	} {
		if got, e := Convolve(c.a, c.b); e != c.want || e != api.OK && !reflect.DeepEqual(got, api.Filter{}) {
			t.Error(i, got, e)
		}
	}
	r := rand.New(rand.NewSource(17))
	for range 100 {
		a, b := randomFilter(r), randomFilter(r)
		a.Factor, b.Factor = 1, 1
		both, e := Convolve(a, b)
		samples := random(r, 60)
		x, _ := Apply(a, samples, 0)
		x, _ = Apply(b, x, 0)
		y, _ := Apply(both, samples, 0)
		if e != api.OK || !Valid(both) || len(x) != len(y) {
			t.Fatal(e, len(x), len(y))
		}
		for i := range x {
			if d := x[i] - y[i]; d < -1 || d > 1 {
				t.Fatal(i, d)
			}
		}
	}
}

func TestStage(t *testing.T) {
	s := api.Stage{Kind: api.StageFilter, Taps: []int{1, 2}, Factor: 3, Shift: 2}
	f, e := Stage(s)
	if !reflect.DeepEqual(f, filter(3, 2, 1, 2)) || e != api.OK {
		t.Error(f, e)
	}
	f.Taps[0] = 9
	if s.Taps[0] != 1 {
		t.Error("memory is shared")
	}
	for i, c := range []struct {
		s    api.Stage
		want api.Errno
	}{
		{api.Stage{}, api.ErrInvalid}, {api.Stage{Kind: api.StageGain, Num: [3]int{1}, Den: [3]int{1}}, api.ErrInvalid}, {api.Stage{Kind: api.StageFilter, Taps: []int{1, -1}, Factor: 1}, api.ErrInvalid},
		{api.Stage{Kind: api.StageFilter, Taps: []int{2, 1}, Factor: 1, Shift: 1}, api.ErrLimit}, {api.Stage{Kind: api.StageFilter, Taps: []int{1}, Factor: 1, Shift: 31}, api.ErrLimit},
	} {
		if f, e := Stage(c.s); !reflect.DeepEqual(f, api.Filter{}) || e != c.want {
			t.Error(i, f, e)
		}
	}
}
