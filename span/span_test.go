package span

import (
	"math/rand"
	"slices"
	"testing"

	"seismonet/api"
)

const (
	least    = -1 << 63
	greatest = 1<<63 - 1
)

func spans(ends ...int) []api.Span {
	var l []api.Span
	for i := 0; i < len(ends); i += 2 {
		l = append(l, api.Span{From: ends[i], To: ends[i+1]})
	}
	return l
}

// random returns a list of spans of small numbers, some of them empty, and which numbers it has.
func random(r *rand.Rand) ([]api.Span, [30]bool) {
	var l []api.Span
	var has [30]bool
	for range r.Intn(7) {
		s := api.Span{From: r.Intn(28), To: r.Intn(29)}
		if r.Intn(3) > 0 {
			s.To = s.From + r.Intn(4)
		}
		l = append(l, s)
		for x := s.From; x < s.To && x < 30; x++ {
			has[x] = true
		}
	}
	return l, has
}

// listOf returns the valid list of the numbers for which f is true.
func listOf(f func(x int) bool) []api.Span {
	var l []api.Span
	for x := range 30 {
		if f(x) {
			if n := len(l); n > 0 && l[n-1].To == x {
				l[n-1].To++
			} else {
				l = append(l, api.Span{From: x, To: x + 1})
			}
		}
	}
	return l
}

func TestValidAndNormal(t *testing.T) {
	for _, c := range []struct {
		l, normal []api.Span
	}{
		{nil, nil}, {spans(1, 2), spans(1, 2)}, {spans(1, 2, 3, 4), spans(1, 2, 3, 4)}, {spans(1, 2, 2, 4), spans(1, 4)},
		{spans(1, 1), nil}, {spans(2, 1), nil}, {spans(3, 4, 1, 2), spans(1, 2, 3, 4)}, {spans(5, 7, 1, 3, 3, 4, 9, 9), spans(1, 4, 5, 7)},
		{spans(1, 9, 2, 3), spans(1, 9)}, {spans(least, greatest, 0, 5), spans(least, greatest)}, {spans(greatest, least), nil},
	} {
		before := slices.Clone(c.l)
		got := Normal(c.l)
		if !slices.Equal(got, c.normal) || Valid(c.l) != slices.Equal(c.l, c.normal) || !slices.Equal(c.l, before) {
			t.Error(c.l, got)
		}
		if len(got) > 0 {
			got[0].From = 77
			if !slices.Equal(c.l, before) {
				t.Error("memory is shared", c.l)
			}
		}
	}
}

func TestSetsOfRandomLists(t *testing.T) {
	r := rand.New(rand.NewSource(3))
	for range 3000 {
		a, inA := random(r)
		b, inB := random(r)
		from, to, n := r.Intn(30), r.Intn(30), r.Intn(30)-3
		count := 0
		for name, c := range map[string][2][]api.Span{
			"Normal": {Normal(a), listOf(func(x int) bool { return inA[x] })},
			"Union":  {Union(a, b), listOf(func(x int) bool { return inA[x] || inB[x] })},
			"Meet":   {Meet(a, b), listOf(func(x int) bool { return inA[x] && inB[x] })},
			"Minus":  {Minus(a, b), listOf(func(x int) bool { return inA[x] && !inB[x] })},
			"Cut":    {Cut(a, from, to), listOf(func(x int) bool { return inA[x] && from <= x && x < to })},
			"First": {First(a, n), listOf(func(x int) bool {
				if inA[x] {
					count++
				}
				return inA[x] && count <= n
			})},
		} {
			if !slices.Equal(c[0], c[1]) {
				t.Fatal(name, a, b, from, to, n, c[0], c[1])
			}
		}
		for x := range 30 {
			if Has(a, x) != inA[x] {
				t.Fatal(a, x)
			}
		}
		if got, ok := Length(a); got != count || !ok {
			t.Fatal(a, got, count)
		}
	}
}

func TestGreatNumbers(t *testing.T) {
	all := spans(least, greatest)
	if got := Minus(all, spans(0, 5)); !slices.Equal(got, spans(least, 0, 5, greatest)) {
		t.Error(got)
	}
	if got := Union(spans(least, 0), spans(0, greatest)); !slices.Equal(got, all) {
		t.Error(got)
	}
	if got := First(all, greatest); !slices.Equal(got, spans(least, -1)) {
		t.Error(got)
	}
	if got := First(all, least); len(got) != 0 {
		t.Error(got)
	}
	if Has(all, greatest) || !Has(all, least) {
		t.Error("ends")
	}
	for _, c := range []struct {
		l    []api.Span
		want int
		ok   bool
	}{
		{spans(-1<<60, 1<<60), 1 << 61, true}, {spans(-1<<60-1, 0), 0, false}, {spans(0, 1<<60+1), 0, false},
		{spans(1<<60+1, 0, 3, 4), 1, true}, {nil, 0, true}, {all, 0, false},
	} {
		if got, ok := Length(c.l); got != c.want || ok != c.ok {
			t.Error(c, got, ok)
		}
	}
}

func TestShift(t *testing.T) {
	for _, c := range []struct {
		l    []api.Span
		by   int
		want []api.Span
		e    api.Errno
	}{
		{spans(5, 7, 1, 3, 3, 4), -2, spans(-1, 2, 3, 5), api.OK}, {nil, 1 << 60, nil, api.OK}, {nil, 1<<60 + 1, nil, api.ErrRange},
		{nil, -1<<60 - 1, nil, api.ErrRange}, {spans(0, 1<<60), 1 << 60, spans(1<<60, 1<<61), api.OK}, {spans(0, 1<<60+1), 0, nil, api.ErrRange},
		{spans(-1<<60-1, 0), 0, nil, api.ErrRange}, {spans(1, 2), least, nil, api.ErrRange}, {spans(1<<60+9, 0), -1 << 60, nil, api.OK},
	} {
		if got, e := Shift(c.l, c.by); !slices.Equal(got, c.want) || e != c.e {
			t.Error(c, got, e)
		}
	}
}
