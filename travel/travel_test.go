package travel

import (
	"math/rand"
	"testing"

	"seismonet/api"
)

var example = api.Table{Step: 1000, Low: []int{0, 150, 320}, High: []int{0, 200, 400}}

func invalid() []api.Table {
	long := make([]int, api.MaxTable+1)
	return []api.Table{
		{}, {Step: 0, Low: []int{0, 1}, High: []int{0, 1}}, {Step: api.MaxStep + 1, Low: []int{0, 1}, High: []int{0, 1}}, {Step: 1, Low: []int{0}, High: []int{0}}, {Step: 1, Low: []int{0, 1}, High: []int{0, 1, 2}},
		{Step: 1, Low: long, High: long}, {Step: 1, Low: []int{-1, 1}, High: []int{0, 1}}, {Step: 1, Low: []int{0, 1}, High: []int{0, api.MaxTravel + 1}}, {Step: 1, Low: []int{0, 2}, High: []int{0, 1}},
		{Step: 1, Low: []int{2, 1}, High: []int{3, 3}}, {Step: 1, Low: []int{0, 0}, High: []int{3, 2}}, {Step: -1 << 63, Low: []int{0, 1}, High: []int{0, 1}},
	}
}

func TestValidate(t *testing.T) {
	long := make([]int, api.MaxTable)
	for i, c := range []struct {
		t     api.Table
		reach int
	}{{example, 2000}, {api.Table{Step: api.MaxStep, Low: long, High: long}, 255 << 20}, {api.Table{Step: 1, Low: []int{0, api.MaxTravel}, High: []int{api.MaxTravel, api.MaxTravel}}, 1}} {
		if Validate(c.t) != api.OK || Reach(c.t) != c.reach {
			t.Error(i)
		}
	}
	bad := api.Position{X: 1 << 40}
	for i, x := range invalid() {
		if Validate(x) != api.ErrTable || Reach(x) != 0 {
			t.Error(i)
		}
		if a, b, e := Between(x, -1, 0); a != 0 || b != 0 || e != api.ErrTable {
			t.Error(i, e)
		}
		if a, b, e := Interval(x, bad, bad); a != 0 || b != 0 || e != api.ErrTable {
			t.Error(i, e)
		}
		if a, b, e := Distances(x, 0); a != 0 || b != 0 || e != api.ErrTable {
			t.Error(i, e)
		}
	}
}

func TestBetween(t *testing.T) {
	for _, c := range []struct {
		near, far, low, high int
		e                    api.Errno
	}{
		{1500 * 1500, 1500 * 1500, 150, 400, api.OK}, {0, 0, 0, 0, api.OK}, {0, 1, 0, 200, api.OK}, {999 * 999, 1000 * 1000, 0, 200, api.OK}, {1000*1000 - 1, 1000*1000 + 1, 0, 400, api.OK},
		{1000 * 1000, 1000 * 1000, 150, 200, api.OK}, {2000 * 2000, 2000 * 2000, 320, 400, api.OK}, {0, 2000*2000 + 1, 0, 0, api.ErrBeyond}, {2001 * 2001, 2001 * 2001, 0, 0, api.ErrBeyond},
		{-1, 5, 0, 0, api.ErrRange}, {6, 5, 0, 0, api.ErrRange}, {-1 << 63, 1<<63 - 1, 0, 0, api.ErrRange}, {0, 1<<63 - 1, 0, 0, api.ErrBeyond},
	} {
		if low, high, e := Between(example, c.near, c.far); low != c.low || high != c.high || e != c.e {
			t.Error(c, low, high, e)
		}
	}
}

func TestInterval(t *testing.T) {
	at := func(x, y, z int) api.Position { return api.Position{X: x, Y: y, Z: z} }
	for _, c := range []struct {
		a, b      api.Position
		low, high int
		e         api.Errno
	}{
		{at(100, 200, 300), at(100, 200, 300), 0, 0, api.OK}, {at(0, 0, 0), at(0, 900, 1200), 150, 400, api.OK}, {at(-1000, 0, 0), at(1000, 0, 0), 320, 400, api.OK}, {at(-1000, 0, 0), at(1000, 1, 0), 0, 0, api.ErrBeyond},
		{at(1<<40, 0, 0), at(0, 0, 0), 0, 0, api.ErrRegion}, {at(0, 0, 0), at(0, 0, -1<<20), 0, 0, api.ErrRegion},
	} {
		if low, high, e := Interval(example, c.a, c.b); low != c.low || high != c.high || e != c.e {
			t.Error(c, low, high, e)
		}
	}
}

func TestDistances(t *testing.T) {
	for _, c := range []struct {
		time, least, greatest int
		e                     api.Errno
	}{{180, 1, 1999, api.OK}, {0, 0, 999, api.OK}, {320, 1001, 2000, api.OK}, {400, 1001, 2000, api.OK}, {401, 0, 0, api.ErrNone}, {-1, 0, 0, api.ErrNone}, {140, 1, 999, api.OK}, {-1 << 63, 0, 0, api.ErrNone}, {1<<63 - 1, 0, 0, api.ErrNone}} {
		if least, greatest, e := Distances(example, c.time); least != c.least || greatest != c.greatest || e != c.e {
			t.Error(c, least, greatest, e)
		}
	}
	if _, _, e := Distances(api.Table{Step: 1, Low: []int{0, 9}, High: []int{3, 9}}, 5); e != api.ErrNone {
		t.Error("no whole number lies between two entries", e)
	}
}

func TestRandomTables(t *testing.T) {
	r := rand.New(rand.NewSource(21))
	for range 500 {
		x := api.Table{Step: 1 + r.Intn(4)}
		low, high := r.Intn(3), r.Intn(3)
		for range 2 + r.Intn(6) {
			low, high = low+r.Intn(3), high+r.Intn(4)
			x.Low, x.High = append(x.Low, min(low, high)), append(x.High, high)
		}
		if Validate(x) != api.OK {
			t.Fatal(x)
		}
		for time := -1; time < 30; time++ {
			least, greatest, found := 0, 0, false
			for d := 0; d <= Reach(x); d++ {
				low, high, e := Between(x, d*d, d*d)
				if e != api.OK || low != x.Low[d/x.Step] || high != x.High[(d+x.Step-1)/x.Step] {
					t.Fatal(x, d, low, high, e)
				}
				if low <= time && time <= high {
					if !found {
						least = d
					}
					greatest, found = d, true
				}
			}
			a, b, e := Distances(x, time)
			if a != least || b != greatest || (e == api.OK) != found {
				t.Fatal(x, time, a, b, e)
			}
		}
	}
}
