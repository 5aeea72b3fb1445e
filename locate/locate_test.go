package locate

import (
	"math/rand"
	"slices"
	"testing"

	"seismonet/api"
	"seismonet/geometry"
	"seismonet/misfit"
)

var table = api.Table{Step: 10, Low: []int{0, 15, 32, 50, 70}, High: []int{0, 20, 40, 60, 80}}

var fine = fineTable()

func fineTable() api.Table {
	t := api.Table{Step: 1}
	for k := range 40 {
		t.Low, t.High = append(t.Low, 2*k), append(t.High, 2*k)
	}
	return t
}

func at(x, y, z int) api.Position {
	return api.Position{X: x, Y: y, Z: z}
}

func problem(high api.Position, l ...api.Phase) api.Problem {
	return api.Problem{Region: api.Box{High: high}, Table: table, Phases: l, Cap: 1000}
}

func random(r *rand.Rand) api.Problem {
	p := problem(at(r.Intn(9), r.Intn(9), r.Intn(5)))
	p.Cap = 5 + r.Intn(100)
	for range 1 + r.Intn(5) {
		early := 50 + r.Intn(30)
		p.Phases = append(p.Phases, api.Phase{Station: at(r.Intn(20)-5, r.Intn(20)-5, 0), Early: early, Late: early + r.Intn(5), Weight: 1 + r.Intn(3)})
	}
	p.Region.Low = at(r.Intn(3)-2, r.Intn(3)-2, r.Intn(3)-2)
	if r.Intn(4) == 0 {
		p.Region.Low = at(1, 1, 1)
		p.Region.High = at(1+r.Intn(3), 1+r.Intn(3), 1+r.Intn(2))
	}
	if r.Intn(3) > 0 {
		p.Table = fine
		if r.Intn(2) == 0 {
			// Stations on one line see points on both sides of it alike.
			for i := range p.Phases {
				p.Phases[i].Station.X = p.Region.High.X / 2
			}
		}
	}
	return p
}

// follow searches by the definition, with a plain list of the open boxes.
func follow(t *testing.T, p api.Problem, tolerance int) (api.Location, int) {
	type item struct {
		b             api.Box
		bound, number int
	}
	bound := func(b api.Box) int {
		n, e := misfit.Bound(p, b)
		if e != api.OK {
			t.Fatal(e)
		}
		return n
	}
	open := []item{{p.Region, bound(p.Region), 0}}
	var best api.Location
	taken, next := 0, 1
	for len(open) > 0 {
		slices.SortFunc(open, func(a, b item) int {
			if a.bound != b.bound {
				return a.bound - b.bound
			}
			return a.number - b.number
		})
		first := open[0]
		if taken > 0 && best.Misfit-first.bound <= tolerance {
			break
		}
		open = open[1:]
		x := geometry.Center(first.b)
		time, cost, _ := misfit.At(p, x)
		if taken == 0 || cost < best.Misfit || cost == best.Misfit && geometry.Compare(x, best.Point) < 0 {
			best = api.Location{Point: x, Time: time, Misfit: cost}
		}
		taken++
		if a, b, ok := geometry.Split(first.b); ok {
			open = append(open, item{a, bound(a), next}, item{b, bound(b), next + 1})
			next += 2
		}
	}
	best.Lower = best.Misfit
	best.Area = api.Box{Low: best.Point, High: best.Point}
	for _, x := range open {
		best.Lower = min(best.Lower, x.bound)
		if x.bound < best.Misfit {
			best.Area = geometry.Hull(best.Area, x.b)
		}
	}
	return best, taken
}

func TestRandomProblems(t *testing.T) {
	r := rand.New(rand.NewSource(25))
	for range 150 {
		p := random(r)
		if _, e := Locate(p, 0); e == api.ErrTries {
			continue
		}
		before := 1 << 60
		for _, tolerance := range []int{0, 1, 3, 10, 1000} {
			got, e := Locate(p, tolerance)
			n, e2 := Boxes(p, tolerance)
			want, boxes := follow(t, p, tolerance)
			if got != want || n != boxes || e != api.OK || e2 != api.OK || n > before {
				t.Fatal(p, tolerance, got, want, n, boxes, e)
			}
			before = n
			checkPoints(t, p, got, tolerance)
		}
		turned := p
		turned.Phases = slices.Clone(p.Phases)
		slices.Reverse(turned.Phases)
		a, _ := Locate(p, 1)
		if b, _ := Locate(turned, 1); a != b {
			t.Fatal("the order of the phases matters")
		}
	}
}

func checkPoints(t *testing.T, p api.Problem, x api.Location, tolerance int) {
	t.Helper()
	for a := p.Region.Low.X; a <= p.Region.High.X; a++ {
		for b := p.Region.Low.Y; b <= p.Region.High.Y; b++ {
			for c := p.Region.Low.Z; c <= p.Region.High.Z; c++ {
				_, cost, _ := misfit.At(p, at(a, b, c))
				if x.Misfit-cost > tolerance || x.Lower > cost || cost < x.Misfit && !geometry.Contains(x.Area, at(a, b, c)) {
					t.Fatal(p, x, a, b, c, cost)
				}
			}
		}
	}
}

func TestExamples(t *testing.T) {
	one := problem(at(0, 0, 0), api.Phase{Early: 5, Late: 6, Weight: 1}, api.Phase{Early: 15, Late: 16, Weight: 1})
	x, e := Locate(one, 0)
	if x != (api.Location{Time: 6, Misfit: 9, Lower: 9}) || e != api.OK {
		t.Error(x, e)
	}
	if n, e := Boxes(one, 0); n != 1 || e != api.OK {
		t.Error(n, e)
	}
	center := problem(at(8, 8, 8), api.Phase{Early: 5, Late: 600, Weight: 1})
	x, e = Locate(center, 0)
	middle := at(4, 4, 4)
	if x.Point != middle || x.Misfit != 0 || x.Lower != 0 || x.Area != (api.Box{Low: middle, High: middle}) || e != api.OK {
		t.Error(x, e)
	}
	if n, _ := Boxes(center, 0); n != 1 {
		t.Error(n)
	}
}

func TestErrors(t *testing.T) {
	good := problem(at(8, 8, 8), api.Phase{Weight: 1})
	bad := good
	bad.Cap = 0
	if x, e := Locate(bad, -1); x != (api.Location{}) || e != api.ErrRange {
		t.Error(x, e)
	}
	bad.Phases = nil
	if x, e := Locate(bad, -1); x != (api.Location{}) || e != api.ErrNone {
		t.Error(x, e)
	}
	if n, e := Boxes(bad, -1); n != 0 || e != api.ErrNone {
		t.Error(n, e)
	}
	if x, e := Locate(good, -1); x != (api.Location{}) || e != api.ErrRange {
		t.Error(x, e)
	}
	if n, e := Boxes(good, -1); n != 0 || e != api.ErrRange {
		t.Error(n, e)
	}
}

// Two phases at one place that contradict each other have the same misfit everywhere, but greater boxes have lesser bounds.
func TestTries(t *testing.T) {
	p := problem(at(0, 0, 0), api.Phase{Early: 500, Late: 500, Weight: 1}, api.Phase{Early: 900, Late: 900, Weight: 1})
	p.Table = api.Table{Step: 1}
	for k := range 60 {
		p.Table.Low, p.Table.High = append(p.Table.Low, 3*k), append(p.Table.High, 3*k)
	}
	for side, want := range map[int]api.Errno{2: api.OK, 20: api.ErrTries} {
		p.Region.High = at(side, side, side)
		x, e := Locate(p, 0)
		n, e2 := Boxes(p, 0)
		if e != want || e2 != want || e != api.OK && (x != (api.Location{}) || n != 0) || n > api.MaxBoxes {
			t.Error(side, x, n, e)
		}
	}
}
