package picker

import (
	"math/rand"
	"slices"
	"testing"

	"seismonet/api"
	"seismonet/detector"
)

var (
	example = api.Picking{Detector: api.Detector{Short: 1, Long: 4, On: 200, Off: 100}, Back: 2, Level: 100, Floor: 5}
	id      = api.SourceID{Network: "GR", Station: "FUR", Channel: "HHZ"}
)

func segment(samples ...int) api.Segment {
	return api.Segment{Start: 1000000, First: 1, Rate: api.Rate{Num: 10, Den: 1}, Error: 7, Samples: samples}
}

func with(f func(p *api.Picking)) api.Picking {
	p := example
	f(&p)
	return p
}

func invalid() []api.Picking {
	return []api.Picking{
		with(func(p *api.Picking) { p.Detector.Short = 0 }), with(func(p *api.Picking) { p.Back = -1 }), with(func(p *api.Picking) { p.Back = api.MaxWindow + 1 }),
		with(func(p *api.Picking) { p.Level = -1 }), with(func(p *api.Picking) { p.Level = api.MaxPercent + 1 }), with(func(p *api.Picking) { p.Floor = -1 }), with(func(p *api.Picking) { p.Floor = api.MaxSample + 1 }),
	}
}

func TestValid(t *testing.T) {
	for i, p := range []api.Picking{example, with(func(p *api.Picking) { p.Back, p.Level, p.Floor = 0, 0, 0 }), with(func(p *api.Picking) { p.Back, p.Level, p.Floor = api.MaxWindow, api.MaxPercent, api.MaxSample })} {
		if !Valid(p) {
			t.Error(i)
		}
	}
	for i, p := range invalid() {
		if Valid(p) {
			t.Error(i)
		}
		if n, e := Onset(p, nil, api.Trigger{}); n != 0 || e != api.ErrInvalid {
			t.Error(i, e)
		}
		if l, e := Segment(p, id, segment(1)); l != nil || e != api.ErrInvalid {
			t.Error(i, e)
		}
		if l, e := Run(p, id, nil); l != nil || e != api.ErrInvalid {
			t.Error(i, e)
		}
	}
}

func TestValidPick(t *testing.T) {
	good := api.Pick{Source: id, Time: 5, Early: 4, Late: 6, Amplitude: 1, Polarity: 1}
	for i, f := range []func(p *api.Pick){
		func(p *api.Pick) {}, func(p *api.Pick) { p.Early, p.Late = 5, 5 }, func(p *api.Pick) { p.Late = 2 * api.MaxTime }, func(p *api.Pick) { p.Amplitude, p.Polarity = api.MaxSample, -1 },
		func(p *api.Pick) { p.Early, p.Amplitude, p.Polarity = 0, 0, 0 },
		func(p *api.Pick) { p.Source.Network = "" }, func(p *api.Pick) { p.Early = -1 }, func(p *api.Pick) { p.Early = 6 }, func(p *api.Pick) { p.Late = 4 }, func(p *api.Pick) { p.Late = 2*api.MaxTime + 1 },
		func(p *api.Pick) { p.Amplitude = -1 }, func(p *api.Pick) { p.Amplitude = 1 << 30 }, func(p *api.Pick) { p.Polarity = 2 }, func(p *api.Pick) { p.Polarity = -2 },
	} {
		p := good
		f(&p)
		if ValidPick(p) != (i < 5) {
			t.Error(i)
		}
	}
}

func TestOnset(t *testing.T) {
	samples := []int{1, 1, 1, 1, 9, 9, 1, 1}
	for i, c := range []struct {
		p       api.Picking
		samples []int
		on      int
		want    int
		e       api.Errno
	}{
		{example, samples, 4, 4, api.OK},
		{with(func(p *api.Picking) { p.Level = 0 }), samples, 4, 2, api.OK},
		{with(func(p *api.Picking) { p.Level, p.Back = 0, 512 }), samples, 4, 0, api.OK},
		{with(func(p *api.Picking) { p.Back = 0 }), samples, 4, 4, api.OK},
		{example, samples, 5, 4, api.OK},
		{with(func(p *api.Picking) { p.Level = 33 }), samples, 4, 2, api.OK},
		{with(func(p *api.Picking) { p.Level = 34 }), samples, 4, 4, api.OK},
		{with(func(p *api.Picking) { p.Back = 4 }), []int{0, -8, 9, -9, 9, 9}, 4, 2, api.OK},
		{example, []int{0, 0, 3, 9, 0, 0}, 3, 3, api.OK}, {example, []int{0, 0, 4, 12, 0, 0}, 3, 3, api.OK}, {example, []int{1, 0, 4, 8, 0, 0}, 3, 2, api.OK},
		{example, samples, 2, 0, api.ErrRange}, {example, samples, 8, 0, api.ErrRange}, {example, append(slices.Clone(samples), 1<<30), 4, 0, api.ErrRange}, {example, make([]int, api.MaxLength+1), 4, 0, api.ErrLimit},
	} {
		if got, e := Onset(c.p, c.samples, api.Trigger{On: c.on}); got != c.want || e != c.e {
			t.Error(i, got, e)
		}
	}
}

func TestSegment(t *testing.T) {
	early := segment(9, 9, 9, 99, 1, 1)
	early.Start, early.First = 0, 0
	for i, c := range []struct {
		p    api.Picking
		g    api.Segment
		want []api.Pick
	}{
		{example, segment(1, 1, 1, 1, -9, 9, 1, 1), []api.Pick{{Source: id, Time: 1500000, Early: 1399993, Late: 1500007, Amplitude: 9, Polarity: -1}}},
		{with(func(p *api.Picking) { p.Floor = 9 }), segment(1, 1, 1, 1, -9, 9, 1, 1), []api.Pick{{Source: id, Time: 1500000, Early: 1399993, Late: 1500007, Amplitude: 9, Polarity: -1}}},
		{with(func(p *api.Picking) { p.Floor = 10 }), segment(1, 1, 1, 1, -9, 9, 1, 1), nil},
		{example, segment(1, 1, 1, 1, -9), nil},
		{with(func(p *api.Picking) { p.Back, p.Level = 9, 0 }), early, []api.Pick{{Source: id, Time: 0, Early: 0, Late: 300007, Amplitude: 99, Polarity: 1}}},
		{with(func(p *api.Picking) { p.Level = 0 }), segment(1, 1, 0, 2, 1, 20, 1, 0, 0, 9, 0), []api.Pick{{Source: id, Time: 1400000, Early: 1299993, Late: 1400007, Amplitude: 20, Polarity: 1}, {Source: id, Time: 2000000, Early: 1899993, Late: 2000007, Amplitude: 9, Polarity: 1}}},
		{with(func(p *api.Picking) { p.Detector.Off, p.Level = 1, 0 }), segment(1, 1, 1, 9, 0, 1), []api.Pick{{Source: id, Time: 1200000, Early: 1099993, Late: 1400007, Amplitude: 9, Polarity: 1}}},
	} {
		got, e := Segment(c.p, id, c.g)
		if e != api.OK || !slices.Equal(got, c.want) {
			t.Error(i, got, e)
		}
		for _, p := range got {
			if !ValidPick(p) {
				t.Error(i, p)
			}
		}
		again, e := Run(c.p, id, []api.Segment{c.g})
		if e != api.OK || !slices.Equal(again, got) {
			t.Error(i, again, e)
		}
	}
	for _, g := range []api.Segment{{}, segment(), segment(1 << 30)} {
		if l, e := Segment(example, id, g); l != nil || e != api.ErrInvalid {
			t.Error(e)
		}
		if l, e := Run(example, id, []api.Segment{segment(1), g}); l != nil || e != api.ErrInvalid {
			t.Error(e)
		}
	}
	if _, e := Segment(example, api.SourceID{}, segment(1)); e != api.ErrInvalid {
		t.Error(e)
	}
	if _, e := Run(example, api.SourceID{}, nil); e != api.ErrInvalid {
		t.Error(e)
	}
}

func TestLimits(t *testing.T) {
	many := segment(slices.Repeat([]int{0, 0, 0, 7}, api.MaxTriggers)...)
	many.Samples = append(many.Samples, 0)
	if l, e := Segment(example, id, many); len(l) != api.MaxTriggers || e != api.OK {
		t.Error(len(l), e)
	}
	other := segment(0, 0, 0, 7, 0)
	if l, e := Run(example, id, []api.Segment{many, other}); len(l) != api.MaxTriggers || e != api.OK {
		t.Error("a pick that is there twice counts once", len(l), e)
	}
	other.Start += 5
	if l, e := Run(example, id, []api.Segment{many, other}); l != nil || e != api.ErrLimit {
		t.Error(len(l), e)
	}
	many.Samples = append(many.Samples, 0, 0, 0, 7)
	if l, e := Segment(example, id, many); l != nil || e != api.ErrLimit {
		t.Error(len(l), e)
	}
	if l, e := Run(example, id, []api.Segment{many, {}}); l != nil || e != api.ErrInvalid {
		t.Error(len(l), e)
	}
	if l, e := Run(example, id, []api.Segment{many}); l != nil || e != api.ErrLimit {
		t.Error(len(l), e)
	}
	late := segment(0, 0, 0, 7, 0)
	late.Start, late.Error = api.MaxTime-700000, api.MaxError
	if l, e := Segment(example, id, late); len(l) != 1 || l[0].Late != l[0].Time+api.MaxError || l[0].Early != l[0].Time-100000-api.MaxError || e != api.OK {
		t.Error(l, e)
	}
}

func TestCompareAndSort(t *testing.T) {
	a := api.Pick{Source: id, Time: 5}
	next := func(f func(p *api.Pick)) api.Pick {
		p := a
		f(&p)
		return p
	}
	other := id
	other.Location = "00"
	ascending := []api.Pick{
		a, next(func(p *api.Pick) { p.Polarity = 1 }), next(func(p *api.Pick) { p.Amplitude, p.Polarity = 1, -1 }), next(func(p *api.Pick) { p.Late, p.Amplitude = 1, -1 }),
		next(func(p *api.Pick) { p.Early, p.Late = 1, -1 }), next(func(p *api.Pick) { p.Time, p.Early = 6, -1 }), next(func(p *api.Pick) { p.Source, p.Time = other, -1 }),
	}
	for i, x := range ascending {
		for k, y := range ascending {
			want := 0
			if i < k {
				want = -1
			} else if i > k {
				want = 1
			}
			if got := Compare(x, y); got != want {
				t.Error(i, k, got)
			}
		}
	}
	mixed := append(slices.Clone(ascending), ascending...)
	r := rand.New(rand.NewSource(19))
	r.Shuffle(len(mixed), func(i, k int) { mixed[i], mixed[k] = mixed[k], mixed[i] })
	before := slices.Clone(mixed)
	if got := Sort(mixed); !slices.Equal(got, ascending) || !slices.Equal(mixed, before) {
		t.Error(got)
	}
	if got := Sort(nil); len(got) != 0 {
		t.Error(got)
	}
}

// The picks of a segment have the onsets of its triggers.
func TestOnsetsOfRandomSegments(t *testing.T) {
	r := rand.New(rand.NewSource(43))
	for range 300 {
		p := api.Picking{Detector: api.Detector{Short: 1 + r.Intn(2), Long: 3 + r.Intn(5), On: 150, Off: 100}, Back: r.Intn(6), Level: r.Intn(200)}
		g := segment()
		for range 60 {
			n := r.Intn(9) - 4
			if r.Intn(9) == 0 {
				n *= 20
			}
			g.Samples = append(g.Samples, n)
		}
		triggers, _ := detector.Run(p.Detector, g.Samples)
		var want []int
		for _, x := range triggers {
			if at, e := Onset(p, g.Samples, x); x.Off >= 0 {
				want = append(want, 1000000+100000*(1+at))
				if e != api.OK {
					t.Fatal(e)
				}
			}
		}
		var got []int
		picks, e := Segment(p, id, g)
		for _, x := range picks {
			got = append(got, x.Time)
		}
		if e != api.OK || !slices.Equal(got, want) {
			t.Fatal(p, g, got, want)
		}
	}
}
