package proof

import (
	"math/rand"
	"slices"
	"testing"

	"seismonet/api"
	"seismonet/geometry"
	"seismonet/locate"
	"seismonet/misfit"
)

var table = api.Table{Step: 10, Low: []int{0, 15, 32, 50, 70}, High: []int{0, 20, 40, 60, 80}}

func at(x, y, z int) api.Position {
	return api.Position{X: x, Y: y, Z: z}
}

func problem(high api.Position, l ...api.Phase) api.Problem {
	return api.Problem{Region: api.Box{High: high}, Table: table, Phases: l, Cap: 1000}
}

func random(r *rand.Rand) api.Problem {
	p := problem(at(r.Intn(9), r.Intn(9), r.Intn(5)))
	p.Cap = 5 + r.Intn(100)
	for range 1 + r.Intn(5) {
		early := 50 + r.Intn(30)
		p.Phases = append(p.Phases, api.Phase{Station: at(r.Intn(20)-5, r.Intn(20)-5, 0), Early: early, Late: early + r.Intn(5), Weight: 1 + r.Intn(3)})
	}
	return p
}

func TestCertificatesOfLocations(t *testing.T) {
	r := rand.New(rand.NewSource(26))
	for range 200 {
		p := random(r)
		tolerance := []int{0, 1, 5, 50}[r.Intn(4)]
		x, e := locate.Locate(p, tolerance)
		if e != api.OK {
			t.Fatal(e)
		}
		proof, e := Make(p, x, tolerance)
		if e != api.OK || Check(p, x, tolerance, proof) != api.OK || Check(p, x, tolerance+9, proof) != api.OK {
			t.Fatal(p, x, tolerance, proof, e)
		}
		for i := range proof {
			bad := slices.Clone(proof)
			bad[i] = 2
			if Check(p, x, tolerance, bad) != api.ErrProof || Check(p, x, tolerance, proof[:i]) != api.ErrProof {
				t.Fatal(i)
			}
		}
		for _, more := range [][]int{append(slices.Clone(proof), 0), append(slices.Clone(proof), 1)} {
			if Check(p, x, tolerance, more) != api.ErrProof {
				t.Fatal(more)
			}
		}
		checkShortest(t, p, x, tolerance, proof)
		checkLeaves(t, r, p, x, tolerance)
	}
}

// If a split is replaced by a leaf, what remains is no certificate.
func checkShortest(t *testing.T, p api.Problem, x api.Location, tolerance int, proof []int) {
	t.Helper()
	for i, n := range proof {
		if n == 0 {
			continue
		}
		end, open := i, 1
		for open > 0 {
			open += 2*proof[end] - 1
			end++
		}
		shorter := slices.Concat(proof[:i], []int{0}, proof[end:])
		if Check(p, x, tolerance, shorter) != api.ErrProof {
			t.Fatal(proof, shorter)
		}
	}
}

// What Check accepts is true of all points.
func checkLeaves(t *testing.T, r *rand.Rand, p api.Problem, x api.Location, tolerance int) {
	t.Helper()
	changed := x
	switch r.Intn(4) {
	case 0:
		changed.Lower += r.Intn(3)
	case 1:
		changed.Area.High = changed.Area.Low
	case 2:
		tolerance = max(tolerance-r.Intn(9), 0)
	case 3:
		changed.Point = geometry.Center(p.Region)
		changed.Time, changed.Misfit, _ = misfit.At(p, changed.Point)
	}
	proof, e := Make(p, changed, tolerance)
	if e != api.OK {
		if e != api.ErrProof || proof != nil {
			t.Fatal(e)
		}
		return
	}
	for a := range p.Region.High.X + 1 {
		for b := range p.Region.High.Y + 1 {
			for c := range p.Region.High.Z + 1 {
				_, cost, _ := misfit.At(p, at(a, b, c))
				if changed.Misfit-cost > tolerance || changed.Lower > cost || cost < changed.Misfit && !geometry.Contains(changed.Area, at(a, b, c)) {
					t.Fatal(p, changed, a, b, c, cost)
				}
			}
		}
	}
}

func TestErrors(t *testing.T) {
	p := problem(at(0, 0, 0), api.Phase{Early: 5, Late: 6, Weight: 1}, api.Phase{Early: 15, Late: 16, Weight: 1})
	x, _ := locate.Locate(p, 0)
	if proof, e := Make(p, x, 0); !slices.Equal(proof, []int{0}) || e != api.OK {
		t.Error(proof, e)
	}
	broken := p
	broken.Phases = nil
	change := func(f func(x *api.Location)) api.Location {
		y := x
		f(&y)
		return y
	}
	long := make([]int, maxElements+1)
	for i, c := range []struct {
		p         api.Problem
		x         api.Location
		tolerance int
		made      api.Errno
		checked   api.Errno
	}{
		{broken, api.Location{}, -1, api.ErrNone, api.ErrNone}, {p, api.Location{}, -1, api.ErrRange, api.ErrRange}, {p, change(func(x *api.Location) { x.Time++ }), 0, api.ErrState, api.ErrState},
		{p, change(func(x *api.Location) { x.Misfit-- }), 0, api.ErrState, api.ErrState}, {p, change(func(x *api.Location) { x.Point.X = 1 }), 0, api.ErrState, api.ErrState},
		{p, change(func(x *api.Location) { x.Lower = x.Misfit + 1 }), 0, api.ErrProof, api.ErrLimit}, {p, x, 0, api.OK, api.ErrLimit}, {p, change(func(x *api.Location) { x.Area = api.Box{High: at(-1, 0, 0)} }), 0, api.OK, api.ErrLimit},
	} {
		if proof, e := Make(c.p, c.x, c.tolerance); e != c.made || e != api.OK && proof != nil {
			t.Error(i, proof, e)
		}
		if e := Check(c.p, c.x, c.tolerance, long); e != c.checked {
			t.Error(i, e)
		}
	}
	if e := Check(p, x, 0, make([]int, 6001)); e != api.ErrProof {
		t.Error(e)
	}
	if e := Check(p, x, 0, make([]int, 6002)); e != api.ErrLimit {
		t.Error(e)
	}
	for _, bad := range [][]int{nil, {1}, {1, 0}, {1, 0, 0}, {0, 0}, {2}, {-1}, long[1:]} {
		if e := Check(p, x, 0, bad); e != api.ErrProof {
			t.Error(bad, e)
		}
	}
	if e := Check(p, change(func(x *api.Location) { x.Lower = x.Misfit + 1 }), 0, []int{0}); e != api.ErrProof {
		t.Error(e)
	}
	if e := Check(p, change(func(x *api.Location) { x.Lower = -1 << 63 }), 0, []int{0}); e != api.OK {
		t.Error(e)
	}
}

func TestLimitOfMake(t *testing.T) {
	p := problem(at(20, 20, 20), api.Phase{Early: 500, Late: 500, Weight: 1}, api.Phase{Early: 900, Late: 900, Weight: 1})
	p.Table = api.Table{Step: 1}
	for k := range 60 {
		p.Table.Low, p.Table.High = append(p.Table.Low, 3*k), append(p.Table.High, 3*k)
	}
	time, cost, _ := misfit.At(p, at(3, 3, 3))
	x := api.Location{Point: at(3, 3, 3), Time: time, Misfit: cost, Area: p.Region}
	if proof, e := Make(p, x, 0); proof != nil || e != api.ErrLimit {
		t.Error(len(proof), e)
	}
	if proof, e := Make(p, x, 1000); !slices.Equal(proof, []int{0}) || e != api.OK {
		t.Error(proof, e)
	}
	x.Lower = cost
	if proof, e := Make(p, x, 1000); proof != nil || e != api.ErrLimit {
		t.Error(len(proof), e)
	}
}

func TestLowerAheadOfLimit(t *testing.T) {
	p := problem(at(20, 20, 20), api.Phase{Early: 500, Late: 500, Weight: 1}, api.Phase{Early: 900, Late: 900, Weight: 1})
	time, cost, _ := misfit.At(p, at(3, 3, 3))
	x := api.Location{Point: at(3, 3, 3), Time: time, Misfit: cost, Lower: cost + 1, Area: p.Region}
	if proof, e := Make(p, x, 0); proof != nil || e != api.ErrProof {
		t.Error(len(proof), e)
	}
}
