package detector

import (
	"math/rand"
	"reflect"
	"slices"
	"testing"

	"seismonet/api"
)

var example = api.Detector{Short: 1, Long: 4, On: 200, Off: 100}

func invalid() []api.Detector {
	return []api.Detector{
		{}, {Short: 0, Long: 4, On: 2, Off: 1}, {Short: 4, Long: 4, On: 2, Off: 1}, {Short: 1, Long: 513, On: 2, Off: 1}, {Short: 1, Long: 4, On: 2, Off: 3},
		{Short: 1, Long: 4, On: 2, Off: 0}, {Short: 1, Long: 4, On: 10001, Off: 1}, {Short: -1, Long: 4, On: 2, Off: 1},
	}
}

func TestValid(t *testing.T) {
	for _, d := range []api.Detector{example, {Short: 511, Long: 512, On: 10000, Off: 10000}, {Short: 1, Long: 2, On: 1, Off: 1}} {
		if !Valid(d) {
			t.Error(d)
		}
	}
	long := make([]int, api.MaxLength+1)
	for i, d := range invalid() {
		if Valid(d) || ValidWatch(api.Watch{Detector: d, Open: api.Trigger{On: -1}}) {
			t.Error(i)
		}
		if a, b, e := Ratio(d, long, -1); a != 0 || b != 0 || e != api.ErrInvalid {
			t.Error(i, e)
		}
		if l, e := Run(d, long); l != nil || e != api.ErrInvalid {
			t.Error(i, e)
		}
		if w, e := Start(d); !reflect.DeepEqual(w, api.Watch{}) || e != api.ErrInvalid {
			t.Error(i, e)
		}
	}
}

func TestRatio(t *testing.T) {
	samples := []int{1, -1, 1, 1, 9, -9, 1, 1}
	for i, want := range [][2]int{3: {1, 4}, 4: {9, 12}, 5: {9, 20}, 6: {1, 20}, 7: {1, 20}} {
		a, b, e := Ratio(example, samples, i)
		if i < 3 {
			if a != 0 || b != 0 || e != api.ErrRange {
				t.Error(i, e)
			}
		} else if a != want[0] || b != want[1] || e != api.OK {
			t.Error(i, a, b, e)
		}
	}
	for i, c := range []struct {
		samples []int
		i       int
		want    api.Errno
	}{
		{samples, -1, api.ErrRange}, {samples, 8, api.ErrRange}, {append(slices.Clone(samples), api.MaxSample+1), 5, api.ErrRange}, {append(slices.Clone(samples), -1<<63), 5, api.ErrRange},
		{make([]int, api.MaxLength+1), -1, api.ErrLimit}, {make([]int, api.MaxLength), api.MaxLength - 1, api.OK}, {nil, 0, api.ErrRange},
	} {
		if _, _, e := Ratio(example, c.samples, c.i); e != c.want {
			t.Error(i, e)
		}
	}
}

func TestRun(t *testing.T) {
	for i, c := range []struct {
		d       api.Detector
		samples []int
		want    []api.Trigger
	}{
		{example, []int{1, 1, 1, 1, 9, 9, 1, 1}, []api.Trigger{{On: 4, Off: 6, Peak: 9}}}, {example, []int{1, 1, 1, 1, 9, -12}, []api.Trigger{{On: 4, Off: -1, Peak: 12}}},
		{example, []int{1, 1, 1, 9, 1, 1, 1, 1, 8, 1}, []api.Trigger{{On: 3, Off: 4, Peak: 9}, {On: 8, Off: 9, Peak: 8}}}, {example, []int{9, 9, 9}, nil}, {example, nil, nil},
		{example, []int{5, 5, 5, 5, 5, 5}, nil}, {api.Detector{Short: 1, Long: 4, On: 100, Off: 50}, []int{5, -5, 5, 5, 5, 5}, []api.Trigger{{On: 3, Off: -1, Peak: 5}}},
		{api.Detector{Short: 1, Long: 4, On: 100, Off: 50}, []int{0, 0, 0, 0, 0, 0}, nil}, {example, []int{0, 0, 0, 7, 0, 0, 0, 0}, []api.Trigger{{On: 3, Off: 4, Peak: 7}}},
		{example, []int{0, 0, 0, 1, 1, 0}, []api.Trigger{{On: 3, Off: 5, Peak: 1}}}, {api.Detector{Short: 511, Long: 512, On: 10000, Off: 10000}, slices.Repeat([]int{api.MaxSample}, 600), nil},
	} {
		if got, e := Run(c.d, c.samples); !slices.Equal(got, c.want) || e != api.OK {
			t.Error(i, got, e)
		}
	}
	many := slices.Repeat([]int{0, 0, 0, 7}, api.MaxTriggers)
	if got, e := Run(example, many); len(got) != api.MaxTriggers || e != api.OK {
		t.Error(len(got), e)
	}
	if got, e := Run(example, append(many, 0, 0, 0, 7)); got != nil || e != api.ErrLimit {
		t.Error(len(got), e)
	}
	for i, c := range []struct {
		samples []int
		want    api.Errno
	}{{make([]int, api.MaxLength+1), api.ErrLimit}, {append(make([]int, api.MaxLength), -1<<63), api.ErrLimit}, {[]int{-1 << 63}, api.ErrRange}, {[]int{api.MaxSample + 1}, api.ErrRange}} {
		if got, e := Run(example, c.samples); got != nil || e != c.want {
			t.Error(i, e)
		}
	}
}

// simple finds triggers by the definition.
func simple(d api.Detector, samples []int) []api.Trigger {
	var l []api.Trigger
	open := false
	for i := d.Long - 1; i < len(samples); i++ {
		short, long, _ := Ratio(d, samples, i)
		reach := func(p int) bool { return long != 0 && 100*d.Long*short >= p*d.Short*long }
		if !open && reach(d.On) {
			l = append(l, api.Trigger{On: i, Off: -1})
			open = true
		} else if open && !reach(d.Off) {
			l[len(l)-1].Off = i
			open = false
		}
		if open {
			l[len(l)-1].Peak = max(l[len(l)-1].Peak, samples[i], -samples[i])
		}
	}
	return l
}

func TestPushInParts(t *testing.T) {
	r := rand.New(rand.NewSource(18))
	for range 500 {
		d := api.Detector{Short: 1 + r.Intn(3), On: 100 + r.Intn(150)}
		d.Long, d.Off = d.Short+1+r.Intn(6), 1+r.Intn(d.On)
		samples := make([]int, r.Intn(60))
		for i := range samples {
			samples[i] = r.Intn(7) - 3
			if r.Intn(8) == 0 {
				samples[i] *= 20
			}
		}
		want, e := Run(d, samples)
		if e != api.OK || !slices.Equal(want, simple(d, samples)) {
			t.Fatal(d, samples, want)
		}
		w, _ := Start(d)
		var got []api.Trigger
		for at := 0; at < len(samples); {
			n := min(r.Intn(8), len(samples)-at)
			next, l, e := Push(w, samples[at:at+n])
			if at += n; e != api.OK || !ValidWatch(next) || next.Count != at || len(next.Past) != min(at, d.Long-1) {
				t.Fatal(next, e)
			}
			got = append(got, l...)
			w = next
		}
		rest, e := Finish(w)
		if got = append(got, rest...); e != api.OK || !slices.Equal(got, want) {
			t.Fatal(d, samples, got, want)
		}
	}
}

func TestWatches(t *testing.T) {
	w, e := Start(example)
	if !reflect.DeepEqual(w, api.Watch{Detector: example, Open: api.Trigger{On: -1}}) || e != api.OK || !ValidWatch(w) {
		t.Error(w, e)
	}
	past := []int{1, 2, 3}
	for i, c := range []struct {
		w    api.Watch
		want bool
	}{
		{api.Watch{Detector: example, Past: past, Count: 3, Open: api.Trigger{On: -1}}, true}, {api.Watch{Detector: example, Past: past, Count: api.MaxIndex, Open: api.Trigger{On: 4, Off: -1, Peak: api.MaxSample}}, true},
		{api.Watch{Detector: example, Past: past, Count: 2, Open: api.Trigger{On: -1}}, false}, {api.Watch{Detector: example, Past: past, Count: api.MaxIndex + 1, Open: api.Trigger{On: -1}}, false},
		{api.Watch{Detector: example, Past: past[:2], Count: 3, Open: api.Trigger{On: -1}}, false}, {api.Watch{Detector: example, Past: []int{1, 2, 3, 4}, Count: 4, Open: api.Trigger{On: -1}}, false},
		{api.Watch{Detector: example, Past: []int{-1}, Count: 1, Open: api.Trigger{On: -1}}, false}, {api.Watch{Detector: example, Past: []int{1 << 30}, Count: 1, Open: api.Trigger{On: -1}}, false},
		{api.Watch{Detector: example, Past: past, Count: 4, Open: api.Trigger{On: 3, Off: -1}}, true}, {api.Watch{Detector: example, Past: past, Count: 4, Open: api.Trigger{On: 4, Off: -1}}, false},
		{api.Watch{Detector: example, Past: past, Count: 3, Open: api.Trigger{On: 2, Off: -1}}, false}, {api.Watch{Detector: example, Past: past, Count: 4, Open: api.Trigger{On: -2, Off: -1}}, false},
		{api.Watch{Detector: example, Past: past, Count: 4, Open: api.Trigger{On: 3}}, false}, {api.Watch{Detector: example, Past: past, Count: 4, Open: api.Trigger{On: -1, Off: -1}}, false},
		{api.Watch{Detector: example, Past: past, Count: 4, Open: api.Trigger{On: -1, Peak: 1}}, false}, {api.Watch{Detector: example, Past: past, Count: 4, Open: api.Trigger{On: 3, Off: -1, Peak: -1}}, false},
		{api.Watch{Detector: example, Past: past, Count: 4, Open: api.Trigger{On: 3, Off: -1, Peak: 1 << 30}}, false}, {api.Watch{}, false},
	} {
		if ValidWatch(c.w) != c.want {
			t.Error(i)
		}
		if c.want {
			continue
		}
		if got, l, e := Push(c.w, make([]int, api.MaxLength+1)); !reflect.DeepEqual(got, api.Watch{}) || l != nil || e != api.ErrInvalid {
			t.Error(i, e)
		}
		if l, e := Finish(c.w); l != nil || e != api.ErrInvalid {
			t.Error(i, e)
		}
	}
	full := api.Watch{Detector: example, Past: past, Count: api.MaxIndex - 1, Open: api.Trigger{On: -1}}
	for i, c := range []struct {
		w       api.Watch
		samples []int
		want    api.Errno
	}{{full, []int{1, 1 << 30}, api.ErrLimit}, {full, []int{1}, api.OK}, {w, append(make([]int, api.MaxLength), 1<<30), api.ErrLimit}, {w, []int{1 << 30}, api.ErrRange}, {w, make([]int, api.MaxLength), api.OK}} {
		got, _, e := Push(c.w, c.samples)
		if e != c.want || (e == api.OK) != ValidWatch(got) {
			t.Error(i, e)
		}
	}
	got, _, _ := Push(full, nil)
	got.Past[0] = 99
	if past[0] != 1 {
		t.Error("memory is shared")
	}
}
