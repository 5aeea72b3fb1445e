package bound

import (
	"math/rand"
	"testing"

	"seismonet/api"
	"seismonet/geometry"
	"seismonet/travel"
)

var example = api.Table{Step: 1000, Low: []int{0, 150, 320}, High: []int{0, 200, 400}}

func at(x, y, z int) api.Position {
	return api.Position{X: x, Y: y, Z: z}
}

func box(a, b, c, d, e, f int) api.Box {
	return api.Box{Low: at(a, b, c), High: at(d, e, f)}
}

func TestExamples(t *testing.T) {
	b := box(0, 0, 0, 1000, 0, 0)
	if low, high, e := Interval(example, b, at(0, 0, 0)); low != 0 || high != 200 || e != api.OK {
		t.Error(low, high, e)
	}
	if z, e := Zone(example, b, api.Phase{Early: 1000, Late: 1010, Weight: 1}); z != (api.Zone{From: 800, To: 1010}) || e != api.OK {
		t.Error(z, e)
	}
	if z, e := Zone(example, b, api.Phase{Early: 0, Late: 0, Weight: 100}); z != (api.Zone{From: -200, To: 0}) || e != api.OK {
		t.Error(z, e)
	}
}

func TestValidPhase(t *testing.T) {
	for i, c := range []struct {
		a    api.Phase
		want bool
	}{
		{api.Phase{Weight: 1}, true}, {api.Phase{Early: 2 * api.MaxTime, Late: 2 * api.MaxTime, Weight: 100}, true}, {api.Phase{}, false}, {api.Phase{Weight: 101}, false}, {api.Phase{Early: -1, Weight: 1}, false},
		{api.Phase{Early: 1, Weight: 1}, false}, {api.Phase{Late: 2*api.MaxTime + 1, Weight: 1}, false}, {api.Phase{Station: at(1<<30, 0, 0), Weight: 1}, false}, {api.Phase{Weight: -1}, false},
	} {
		if ValidPhase(c.a) != c.want {
			t.Error(i)
		}
	}
}

func TestErrors(t *testing.T) {
	good, bad := box(0, 0, 0, 5, 5, 5), box(1, 0, 0, 0, 0, 0)
	far := at(2001, 0, 0)
	for i, c := range []struct {
		t       api.Table
		b       api.Box
		station api.Position
		want    api.Errno
	}{
		{api.Table{}, bad, at(1<<30, 0, 0), api.ErrTable}, {api.Table{}, good, at(0, 0, 0), api.ErrTable}, {example, bad, at(0, 0, 0), api.ErrRegion}, {example, good, at(1<<30, 0, 0), api.ErrRegion}, {example, good, far, api.ErrBeyond},
	} {
		if low, high, e := Interval(c.t, c.b, c.station); low != 0 || high != 0 || e != c.want {
			t.Error(i, low, high, e)
		}
	}
	for i, c := range []struct {
		t    api.Table
		b    api.Box
		a    api.Phase
		want api.Errno
	}{
		{api.Table{}, bad, api.Phase{}, api.ErrTable}, {api.Table{}, good, api.Phase{}, api.ErrTable}, {api.Table{}, good, api.Phase{Weight: 1}, api.ErrTable}, {example, bad, api.Phase{}, api.ErrRegion},
		{example, good, api.Phase{}, api.ErrPhase}, {example, good, api.Phase{Station: at(1<<30, 0, 0), Weight: 1}, api.ErrPhase}, {example, good, api.Phase{Station: far, Weight: 1}, api.ErrBeyond},
	} {
		if z, e := Zone(c.t, c.b, c.a); z != (api.Zone{}) || e != c.want {
			t.Error(i, z, e)
		}
	}
}

func TestMeets(t *testing.T) {
	for _, c := range []struct {
		z, y, want api.Zone
		ok         bool
	}{
		{api.Zone{From: 0, To: 5}, api.Zone{From: 3, To: 9}, api.Zone{From: 3, To: 5}, true}, {api.Zone{From: 0, To: 5}, api.Zone{From: 5, To: 9}, api.Zone{From: 5, To: 5}, true}, {api.Zone{From: 0, To: 5}, api.Zone{From: 6, To: 9}, api.Zone{}, false},
		{api.Zone{From: 5, To: 4}, api.Zone{From: 0, To: 9}, api.Zone{}, false}, {api.Zone{From: -1 << 63, To: 1<<63 - 1}, api.Zone{From: 2, To: 3}, api.Zone{From: 2, To: 3}, true},
	} {
		for range 2 {
			if got, ok := Meets(c.z, c.y); got != c.want || ok != c.ok {
				t.Error(c, got, ok)
			}
			c.z, c.y = c.y, c.z
		}
	}
}

// A point explains a phase exactly at the times of its zone, and zones of boxes contain those of their parts.
func TestZonesOfParts(t *testing.T) {
	r := rand.New(rand.NewSource(22))
	for range 300 {
		b := box(0, 0, 0, r.Intn(700), r.Intn(700), r.Intn(700))
		a := api.Phase{Station: at(r.Intn(1800)-900, r.Intn(900)-300, r.Intn(500)), Early: r.Intn(500), Weight: 1}
		a.Late = a.Early + r.Intn(100)
		outer, e := Zone(example, b, a)
		if e != api.OK {
			t.Fatal(e)
		}
		for {
			first, second, ok := geometry.Split(b)
			if !ok {
				break
			}
			b = first
			if r.Intn(2) == 0 {
				b = second
			}
			inner, e := Zone(example, b, a)
			if e != api.OK || inner.From < outer.From || inner.To > outer.To {
				t.Fatal(inner, outer, e)
			}
			outer = inner
		}
		low, high, _ := travel.Interval(example, b.Low, a.Station)
		for time := -500; time < 700; time += 7 {
			explained := time+low <= a.Late && a.Early <= time+high
			if explained != (outer.From <= time && time <= outer.To) {
				t.Fatal(a, b, time)
			}
		}
	}
}
