package clock

import (
	"math/big"
	"math/rand"
	"reflect"
	"slices"
	"testing"

	"seismonet/api"
)

func anchors(numbers ...int) []api.Anchor {
	var l []api.Anchor
	for i := 0; i < len(numbers); i += 3 {
		l = append(l, api.Anchor{Tag: numbers[i], Low: numbers[i+1], High: numbers[i+2]})
	}
	return l
}

func TestValid(t *testing.T) {
	var many []api.Anchor
	for i := range api.MaxAnchors + 1 {
		many = append(many, api.Anchor{Tag: i})
	}
	for i, c := range []struct {
		l     []api.Anchor
		drift int
		want  bool
	}{
		{nil, 0, true}, {nil, api.MaxDrift, true}, {nil, -1, false}, {nil, api.MaxDrift + 1, false}, {many, 0, false}, {many[1:], 0, true},
		{anchors(0, 0, api.MaxTime, api.MaxTime, 5, 5), 0, true}, {anchors(1, 0, 0, 1, 0, 0), 0, false}, {anchors(2, 0, 0, 1, 0, 0), 0, false},
		{anchors(-1, 0, 0), 0, false}, {anchors(api.MaxTime+1, 0, 0), 0, false}, {anchors(0, -1, 0), 0, false}, {anchors(0, 2, 1), 0, false}, {anchors(0, 0, api.MaxTime+1), 0, false},
	} {
		if Valid(c.l, c.drift) != c.want {
			t.Error(i)
		}
		if _, e := Jumps(c.l, c.drift); (e == api.OK) != c.want || !c.want && e != api.ErrInvalid {
			t.Error(i, e)
		}
		if _, _, e := Correct(c.l, c.drift, 0); (e == api.ErrInvalid) == c.want {
			t.Error(i, e)
		}
	}
}

func TestElapsed(t *testing.T) {
	ratio := func(d, den, up int) int {
		n := big.NewInt(int64(d))
		n.Mul(n, big.NewInt(1000000))
		n.Add(n, big.NewInt(int64(up*(den-1))))
		return int(n.Div(n, big.NewInt(int64(den))).Int64())
	}
	for _, drift := range []int{0, 1, 7, 100, 333333, 500000} {
		for _, d := range []int{0, 1, 2, 999999, 1000000, 123456789, api.MaxTime - 1, api.MaxTime} {
			low, high := Elapsed(drift, d)
			if low != ratio(d, 1000000+drift, 0) || high != ratio(d, 1000000-drift, 1) {
				t.Error(drift, d, low, high)
			}
		}
	}
	for _, c := range [][2]int{{-1, 5}, {500001, 5}, {5, -1}, {5, api.MaxTime + 1}, {-1 << 63, 1<<63 - 1}} {
		if low, high := Elapsed(c[0], c[1]); low != 0 || high != 0 {
			t.Error(c, low, high)
		}
	}
}

func TestFromAndAgrees(t *testing.T) {
	a := api.Anchor{Tag: 1000, Low: 5000, High: 5010}
	for _, c := range []struct {
		a               api.Anchor
		drift, tag      int
		low, high, want int
	}{
		{a, 0, 1100, 5100, 5110, 0}, {a, 0, 900, 4900, 4910, 0}, {a, 500000, 1300, 5200, 5610, 0}, {a, 500000, 700, 4400, 4810, 0},
		{a, 0, -1, 0, 0, 1}, {a, 0, api.MaxTime + 1, 0, 0, 1}, {a, -1, 5, 0, 0, 1}, {api.Anchor{Tag: -1}, 0, 5, 0, 0, 1}, {api.Anchor{Tag: 500}, 0, 0, -500, -500, 0},
	} {
		if low, high, e := From(c.a, c.drift, c.tag); low != c.low || high != c.high || int(e) != c.want {
			t.Error(c, low, high, e)
		}
	}
	for _, c := range []struct {
		b     api.Anchor
		drift int
		want  bool
	}{
		{api.Anchor{Tag: 1100, Low: 5110, High: 5200}, 0, true}, {api.Anchor{Tag: 1100, Low: 5111, High: 5200}, 0, false}, {api.Anchor{Tag: 1100, Low: 0, High: 5100}, 0, true},
		{api.Anchor{Tag: 1100, Low: 0, High: 5099}, 0, false}, {api.Anchor{Tag: 1000, Low: 5000, High: 5000}, 0, false}, {api.Anchor{Tag: 1100, Low: 5105, High: 5104}, 0, false},
		{api.Anchor{Tag: 1100, Low: 5111, High: 5200}, 100000, true}, {api.Anchor{Tag: 1100, Low: 5105, High: 5105}, -1, false},
	} {
		if Agrees(a, c.b, c.drift) != c.want {
			t.Error(c)
		}
	}
}

func TestJumpsAndCorrect(t *testing.T) {
	two := anchors(0, 0, 0, 1000, 5000, 5000)
	runs := anchors(100, 1000, 1020, 200, 1110, 1130, 300, 9000, 9010, 400, 9105, 9120)
	if got, e := Jumps(runs, 0); !slices.Equal(got, []int{2}) || e != api.OK {
		t.Error(got, e)
	}
	if got, e := Jumps(two, 0); !slices.Equal(got, []int{1}) || e != api.OK {
		t.Error(got, e)
	}
	for _, c := range []struct {
		l              []api.Anchor
		tag, time, off int
		want           api.Errno
		drift          int
	}{
		{anchors(1000, 5000, 5010), 1100, 5105, 5, api.OK, 0}, {two, 500, 2500, 2000, api.OK, 0}, {two, 0, 2000, 2000, api.OK, 0}, {two, 1000, 5000, 0, api.OK, 0},
		{two, 2000, 6000, 0, api.OK, 0}, {runs, 0, 915, 5, api.OK, 0}, {runs, 150, 1065, 5, api.OK, 0}, {runs, 199, 1114, 5, api.OK, 0},
		{runs, 200, 5010, 3900, api.OK, 0}, {runs, 299, 5109, 3900, api.OK, 0}, {runs, 300, 9007, 3, api.OK, 0}, {runs, 400, 9107, 3, api.OK, 0}, {runs, 500, 9207, 3, api.OK, 0},
		{anchors(0, 0, 0, 1000, 10, 10), 500, 250, 250, api.OK, 0}, {anchors(500, 0, 601), 0, 50, 51, api.OK, 0}, {anchors(0, 0, 0, 1000, 10, 11), 501, 250, 251, api.OK, 0},
		{nil, 0, 0, 0, api.ErrNotFound, 0}, {nil, -1, 0, 0, api.ErrInvalid, 0}, {runs, api.MaxTime + 1, 0, 0, api.ErrInvalid, 0}, {two, 0, 0, 0, api.ErrInvalid, -1},
		{anchors(500, 0, 0), 0, 0, 0, api.ErrConflict, 0}, {anchors(500, 0, 600), 0, 50, 50, api.OK, 0}, {anchors(0, api.MaxTime, api.MaxTime), 5, 0, 0, api.ErrConflict, 0},
		{anchors(0, 0, 9, 100, 108, 122, 200, 222, 235), 100, 0, 0, api.ErrConflict, 0}, {anchors(0, api.MaxTime-9, api.MaxTime), 5, api.MaxTime - 2, 2, api.OK, 0},
	} {
		if time, off, e := Correct(c.l, c.drift, c.tag); time != c.time || off != c.off || e != c.want {
			t.Error(c, time, off, e)
		}
	}
}

// A clock that keeps its drift is corrected within the bounds.
func TestTrueTimes(t *testing.T) {
	r := rand.New(rand.NewSource(7))
	for range 500 {
		drift := r.Intn(1000)
		speed := r.Intn(2*drift+1) - drift
		trueTime := func(tag int) int { return 1000000 + tag + tag*speed/1000000 }
		var l []api.Anchor
		for i := range 1 + r.Intn(5) {
			tag := 1000000*i + r.Intn(900000)
			l = append(l, api.Anchor{Tag: tag, Low: trueTime(tag) - 2 - r.Intn(50), High: trueTime(tag) + 2 + r.Intn(50)})
		}
		best := -1
		tag := r.Intn(6000000)
		for n := 1; n <= len(l); n++ {
			time, off, e := Correct(l[:n], drift+1, tag)
			if d := time - trueTime(tag); e != api.OK || max(d, -d) > off+2 {
				t.Fatal(l, tag, time, off, e)
			}
			if best >= 0 && off > best {
				t.Fatal("more anchors, but a greater bound")
			}
			best = off
		}
	}
}

func TestApply(t *testing.T) {
	l := anchors(1000, 5000, 5010)
	rec := api.Record{Source: api.SourceID{Network: "G"}, Start: 100, First: 2, Rate: api.Rate{Num: 1000, Den: 1}, Error: 7, Run: 3, Seq: 4, Samples: []int{1, 2}}
	got, e := Apply(l, 0, rec)
	want := rec
	want.Start, want.First, want.Error = 6105, 0, 12
	if !reflect.DeepEqual(got, want) || e != api.OK {
		t.Error(got, e)
	}
	got.Samples[0] = 9
	if rec.Samples[0] != 1 {
		t.Error("memory is shared")
	}
	for i, c := range []struct {
		f    func(r *api.Record)
		l    []api.Anchor
		want api.Errno
	}{
		{func(r *api.Record) { r.Rate.Num = 0 }, l, api.ErrInvalid}, {func(r *api.Record) { r.Start = -1 }, l, api.ErrInvalid}, {func(r *api.Record) { r.First = -1 }, l, api.ErrInvalid},
		{func(r *api.Record) { r.First = api.MaxIndex + 1 }, l, api.ErrInvalid}, {func(r *api.Record) { r.Start = api.MaxTime - 1999 }, l, api.ErrInvalid}, {func(r *api.Record) {}, anchors(-1, 0, 0), api.ErrInvalid},
		{func(r *api.Record) { r.Error = -1 }, nil, api.ErrNotFound}, {func(r *api.Record) { r.Error = -1 }, l, api.ErrRange}, {func(r *api.Record) { r.Error = api.MaxError + 1 }, l, api.ErrRange},
		{func(r *api.Record) {}, anchors(1<<40, 0, 0), api.ErrConflict},
	} {
		bad := rec
		c.f(&bad)
		if got, e := Apply(c.l, 0, bad); !reflect.DeepEqual(got, api.Record{}) || e != c.want {
			t.Error(i, got, e)
		}
	}
	last := rec
	last.Start, last.First, last.Error = api.MaxTime, 0, 0
	if got, e := Apply(anchors(0, 0, 5), 0, last); got.Start != api.MaxTime || got.Error != 0 || e != api.OK {
		t.Error(got, e)
	}
	rec.Error = api.MaxError - 2
	if got, e := Apply(l, 0, rec); got.Error != api.MaxError || e != api.OK {
		t.Error(got, e)
	}
}
