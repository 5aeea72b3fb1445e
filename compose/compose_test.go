package compose

import (
	"math/rand"
	"reflect"
	"slices"
	"testing"

	"seismonet/api"
	"seismonet/record"
	"seismonet/span"
)

func rec(start, seq int, samples ...int) api.Record {
	return api.Record{Source: api.SourceID{Network: "GR", Station: "FUR", Channel: "HHZ"}, Rate: api.Rate{Num: 1000, Den: 1}, Start: start, Seq: seq, Samples: samples}
}

func same(a, b []api.Record) bool {
	return slices.EqualFunc(a, b, record.Same)
}

func many(n int) []api.Record {
	var l []api.Record
	for i := range n {
		l = append(l, rec(0, i, i))
	}
	return l
}

func random(r *rand.Rand) []api.Record {
	var l []api.Record
	for range r.Intn(7) {
		x := rec(r.Intn(9000), r.Intn(3))
		x.Error, x.First = r.Intn(2), r.Intn(2)
		if r.Intn(3) == 0 {
			x.Rate.Num = 700
		}
		if r.Intn(2) == 0 {
			x.Start = x.Start / 1000 * 1000
		}
		for range 1 + r.Intn(6) {
			x.Samples = append(x.Samples, r.Intn(2))
		}
		l = append(l, x)
	}
	return l
}

// sampleAt returns the time and the value of the sample of a record that covers t.
func sampleAt(x api.Record, t int) (from, value int, ok bool) {
	for i := range x.Samples {
		from, _ := record.At(x, i)
		to, _ := record.At(x, i+1)
		if from <= t && t < to {
			return from, x.Samples[i], true
		}
	}
	return 0, 0, false
}

func find(l []api.Record, t int) (from, value int, ok bool) {
	for _, x := range l {
		if from, value, ok := sampleAt(x, t); ok {
			return from, value, true
		}
	}
	return 0, 0, false
}

func TestValid(t *testing.T) {
	other := rec(0, 0, 1)
	other.Source.Location = "00"
	for i, c := range []struct {
		l    []api.Record
		want bool
	}{
		{nil, true}, {many(api.MaxRecords), true}, {many(api.MaxRecords + 1), false}, {[]api.Record{rec(0, 0, 1), other}, false}, {[]api.Record{rec(0, 0)}, false},
		{[]api.Record{rec(0, 0, 1), rec(0, 0, 1)}, true},
	} {
		if Valid(c.l) != c.want {
			t.Error(i)
		}
		if c.want {
			continue
		}
		if l, e := Order(c.l); l != nil || e != api.ErrInvalid {
			t.Error(i, e)
		}
		if l, e := Compose(c.l); l != nil || e != api.ErrInvalid {
			t.Error(i, e)
		}
		if l, e := Covered(c.l); l != nil || e != api.ErrInvalid {
			t.Error(i, e)
		}
		if v, ok := Value(c.l, 0); v != 0 || ok {
			t.Error(i)
		}
		if l, e := Latest(c.l, nil); l != nil || e != api.ErrInvalid {
			t.Error(i, e)
		}
		if l, e := Latest(nil, c.l); l != nil || e != api.ErrInvalid {
			t.Error(i, e)
		}
	}
}

func TestOrder(t *testing.T) {
	l := []api.Record{rec(5000, 1, 1), rec(0, 2, 2), rec(0, 1, 3), rec(5000, 1, 1)}
	got, e := Order(l)
	if want := []api.Record{rec(0, 1, 3), rec(0, 2, 2), rec(5000, 1, 1)}; !same(got, want) || e != api.OK {
		t.Error(got, e)
	}
	got[0].Samples[0] = 9
	if l[2].Samples[0] != 3 {
		t.Error("memory is shared")
	}
}

func TestExample(t *testing.T) {
	l := []api.Record{rec(0, 1, 1, 2, 3, 4), rec(2000, 2, 5, 6, 7, 8)}
	got, e := Compose(l)
	if want := []api.Record{rec(0, 1, 1, 2), rec(2000, 2, 5, 6, 7, 8)}; !same(got, want) || e != api.OK {
		t.Error(got, e)
	}
	l[1].Start = 2001
	got, _ = Compose(l)
	if want := []api.Record{rec(0, 1, 1, 2), l[1]}; !same(got, want) {
		t.Error(got)
	}
	l[1].Seq = 0
	got, _ = Compose(l)
	if tail, _ := record.Sub(l[1], 2, 4); !same(got, []api.Record{rec(0, 1, 1, 2, 3, 4), tail}) {
		t.Error(got)
	}
	middle := []api.Record{rec(0, 1, 1, 2, 3, 4, 5), rec(1500, 2, 9)}
	got, _ = Compose(middle)
	tail, _ := record.Sub(middle[0], 3, 5)
	if want := []api.Record{rec(0, 1, 1), middle[1], tail}; !same(got, want) {
		t.Error(got)
	}
}

// A sample is kept if no better record covers a time that it covers.
func kept(l []api.Record, x api.Record, i int) bool {
	from, _ := record.At(x, i)
	to, _ := record.At(x, i+1)
	for _, y := range l {
		s, _ := record.Span(y)
		if record.Better(y, x) && s.From < to && from < s.To {
			return false
		}
	}
	return true
}

func TestRandomLists(t *testing.T) {
	r := rand.New(rand.NewSource(8))
	for range 800 {
		l := random(r)
		got, e := Compose(l)
		if e != api.OK {
			t.Fatal(e)
		}
		order, _ := Order(l)
		var want []api.Record
		for _, x := range order {
			for i := 0; i < len(x.Samples); i++ {
				k := i
				for k < len(x.Samples) && kept(l, x, k) {
					k++
				}
				if k > i {
					run, _ := record.Sub(x, i, k)
					want = append(want, run)
					i = k
				}
			}
		}
		slices.SortFunc(want, record.Compare)
		if !same(got, want) {
			t.Fatal(l, got, want)
		}
		if again, _ := Compose(got); !same(again, got) {
			t.Fatal("composing again changes", l)
		}
		r.Shuffle(len(l), func(i, k int) { l[i], l[k] = l[k], l[i] })
		if again, _ := Compose(l); !same(again, got) {
			t.Fatal("the order matters", l)
		}
		checkTimes(t, r, l, got)
	}
}

func checkTimes(t *testing.T, r *rand.Rand, l, composed []api.Record) {
	t.Helper()
	set, e := Covered(l)
	other := append(slices.Clone(l), random(r)...)
	if r.Intn(2) == 0 {
		other = random(r)
	}
	latest, f := Latest(l, other)
	back, _ := Latest(other, l)
	if e != api.OK || f != api.OK || !span.Valid(set) || !span.Valid(latest) || !slices.Equal(latest, back) {
		t.Fatal(e, f)
	}
	otherComposed, _ := Compose(other)
	for range 40 {
		at := r.Intn(18000) - 500
		if r.Intn(2) == 0 {
			at = at / 1000 * 1000
		}
		_, _, ok := find(l, at)
		if span.Has(set, at) != ok {
			t.Fatal("Covered", l, at)
		}
		from, value, ok := find(composed, at)
		if v, o := Value(l, at); v != value || o != ok {
			t.Fatal("Value", l, at, v, o)
		}
		from2, value2, ok2 := find(otherComposed, at)
		if span.Has(latest, at) != (from != from2 || value != value2 || ok != ok2) {
			t.Fatal("Latest", l, other, at)
		}
	}
}

func TestLatestOfDifferentRates(t *testing.T) {
	a, b := rec(0, 0, 1, 2), rec(0, 0, 1, 2)
	b.Rate.Num = 500
	got, e := Latest([]api.Record{a}, []api.Record{b})
	if want := []api.Span{{From: 1000, To: 4000}}; !slices.Equal(got, want) || e != api.OK {
		t.Error(got, e)
	}
	if got, _ := Latest([]api.Record{a}, []api.Record{a, a}); len(got) != 0 {
		t.Error(got)
	}
}

func TestInsert(t *testing.T) {
	l := []api.Record{rec(5000, 1, 1), rec(0, 2, 2), rec(5000, 1, 1)}
	got, fresh, e := Insert(l, rec(0, 1, 3))
	if !same(got, []api.Record{rec(0, 1, 3), rec(0, 2, 2), rec(5000, 1, 1)}) || !fresh || e != api.OK {
		t.Error(got, fresh, e)
	}
	got, fresh, e = Insert(l, rec(0, 2, 2))
	if !same(got, []api.Record{rec(0, 2, 2), rec(5000, 1, 1)}) || fresh || e != api.OK {
		t.Error(got, fresh, e)
	}
	got[0].Samples[0] = 9
	if l[1].Samples[0] != 2 {
		t.Error("memory is shared")
	}
	full := many(api.MaxRecords)
	if got, fresh, e := Insert(full, rec(0, 999, 1)); got != nil || fresh || e != api.ErrLimit {
		t.Error(len(got), e)
	}
	if got, fresh, e := Insert(full, full[7]); len(got) != api.MaxRecords || fresh || e != api.OK {
		t.Error(len(got), e)
	}
	if got, fresh, e := Insert(append(full, full...), full[7]); len(got) != api.MaxRecords || fresh || e != api.OK {
		t.Error(len(got), e)
	}
	other := rec(0, 0, 1)
	other.Source.Location = "00"
	for i, c := range []struct {
		l []api.Record
		r api.Record
	}{{full, rec(0, 0)}, {[]api.Record{rec(0, 0)}, rec(0, 0, 1)}, {full, other}, {nil, api.Record{}}} {
		if got, fresh, e := Insert(c.l, c.r); got != nil || fresh || e != api.ErrInvalid {
			t.Error(i, e)
		}
	}
	if got, fresh, e := Insert(nil, other); !reflect.DeepEqual(got, []api.Record{other}) || !fresh || e != api.OK {
		t.Error(got, e)
	}
}
