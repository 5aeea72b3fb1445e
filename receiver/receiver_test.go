package receiver

import (
	"math/rand"
	"reflect"
	"slices"
	"testing"

	"seismonet/api"
	"seismonet/span"
)

func spans(ends ...int) []api.Span {
	var l []api.Span
	for i := 0; i < len(ends); i += 2 {
		l = append(l, api.Span{From: ends[i], To: ends[i+1]})
	}
	return l
}

func same(a, b api.Receiver) bool {
	return slices.Equal(a.Got, b.Got) && slices.Equal(a.Lost, b.Lost)
}

func invalid() []api.Receiver {
	return []api.Receiver{
		{Got: spans(1, 1)}, {Lost: spans(3, 4, 1, 2)}, {Got: spans(-1, 2)}, {Got: spans(0, api.MaxSeq+2)}, {Lost: spans(-5, -3)},
		{Lost: spans(api.MaxSeq+1, api.MaxSeq+2)}, {Got: spans(1, 5), Lost: spans(4, 6)},
	}
}

func TestValid(t *testing.T) {
	if r := New(); !Valid(r) || High(r) != 0 || Settled(r) != 0 || !same(r, api.Receiver{}) {
		t.Error(r)
	}
	for _, r := range []api.Receiver{{Got: spans(0, api.MaxSeq+1)}, {Got: spans(0, 3), Lost: spans(3, 5, 9, 10)}} {
		if !Valid(r) {
			t.Error(r)
		}
	}
	for i, r := range invalid() {
		if Valid(r) || High(r) != 0 || Settled(r) != 0 {
			t.Error(i)
		}
		if got, fresh, e := Accept(r, -1); !same(got, api.Receiver{}) || fresh || e != api.ErrInvalid {
			t.Error(i, e)
		}
		if got, e := Lose(r, -1); !same(got, api.Receiver{}) || e != api.ErrInvalid {
			t.Error(i, e)
		}
		if l, e := Missing(r, -1); l != nil || e != api.ErrInvalid {
			t.Error(i, e)
		}
		if l, e := Request(r, -1, -1); l != nil || e != api.ErrInvalid {
			t.Error(i, e)
		}
	}
}

func TestExamples(t *testing.T) {
	r := New()
	for _, seq := range []int{0, 1, 4} {
		var fresh bool
		var e api.Errno
		r, fresh, e = Accept(r, seq)
		if !fresh || e != api.OK {
			t.Error(seq, fresh, e)
		}
	}
	if l, e := Missing(r, 5); !slices.Equal(l, spans(2, 4)) || e != api.OK || Settled(r) != 2 || High(r) != 5 {
		t.Error(l, e)
	}
	r, e := Lose(r, 3)
	if l, _ := Missing(r, 5); e != api.OK || !slices.Equal(r.Lost, spans(2, 3)) || !slices.Equal(l, spans(3, 4)) || Settled(r) != 3 {
		t.Error(r, l, e)
	}
	late, fresh, e := Accept(r, 2)
	if !fresh || e != api.OK || !same(late, api.Receiver{Got: spans(0, 3, 4, 5)}) {
		t.Error(late, fresh, e)
	}
	again, fresh, e := Accept(late, 2)
	if fresh || e != api.OK || !same(again, late) {
		t.Error(again, fresh, e)
	}
	again.Got[0].From = 77
	if late.Got[0].From != 0 {
		t.Error("memory is shared")
	}
	if l, _ := Missing(late, 8); !slices.Equal(l, spans(3, 4, 5, 8)) {
		t.Error(l)
	}
	if l, _ := Request(late, 8, 2); !slices.Equal(l, spans(3, 4, 5, 6)) {
		t.Error(l)
	}
	if l, e := Request(late, 8, 0); len(l) != 0 || e != api.OK {
		t.Error(l, e)
	}
}

func TestRandomOrder(t *testing.T) {
	r := rand.New(rand.NewSource(5))
	for range 100 {
		x := New()
		got, lost := map[int]bool{}, map[int]bool{}
		for range 60 {
			n := r.Intn(40)
			if r.Intn(9) == 0 {
				x, _ = Lose(x, n)
				for k := range n {
					lost[k] = lost[k] || !got[k]
				}
			} else {
				var fresh bool
				x, fresh, _ = Accept(x, n)
				if fresh == got[n] {
					t.Fatal(n, fresh)
				}
				got[n], lost[n] = true, false
			}
			missing, _ := Missing(x, 20)
			for k := range 41 {
				if span.Has(x.Got, k) != got[k] || span.Has(x.Lost, k) != lost[k] || span.Has(missing, k) != (k < max(20, High(x)) && !got[k] && !lost[k]) {
					t.Fatal(x, k)
				}
			}
			if s := Settled(x); got[s] || lost[s] || s > 0 && !got[s-1] && !lost[s-1] || !Valid(x) {
				t.Fatal(x, s)
			}
		}
	}
}

func TestErrors(t *testing.T) {
	r := New()
	for _, n := range []int{-1, api.MaxSeq + 1, -1 << 63, 1<<63 - 1} {
		if got, fresh, e := Accept(r, n); !same(got, r) || fresh || e != api.ErrRange {
			t.Error(n, e)
		}
	}
	for _, n := range []int{-1, api.MaxSeq + 2} {
		if _, e := Lose(r, n); e != api.ErrRange {
			t.Error(n, e)
		}
		if _, e := Missing(r, n); e != api.ErrRange {
			t.Error(n, e)
		}
		if _, e := Request(r, n, 1); e != api.ErrRange {
			t.Error(n, e)
		}
	}
	for _, n := range []int{-1, api.MaxBuffer + 1} {
		if _, e := Request(r, 1, n); e != api.ErrRange {
			t.Error(n, e)
		}
	}
	for _, n := range []int{0, api.MaxSeq + 1} {
		if l, e := Missing(r, n); span.Has(l, n-1) != (n > 0) || e != api.OK {
			t.Error(n, l, e)
		}
	}
	if l, e := Request(r, api.MaxSeq+1, api.MaxBuffer); !slices.Equal(l, spans(0, api.MaxBuffer)) || e != api.OK {
		t.Error(l, e)
	}
	if _, e := Lose(r, api.MaxSeq+1); e != api.OK {
		t.Error(e)
	}
	if _, fresh, e := Accept(r, api.MaxSeq); !fresh || e != api.OK {
		t.Error(e)
	}
}

func TestLimit(t *testing.T) {
	var full []api.Span
	for i := range api.MaxSpans {
		full = append(full, api.Span{From: 4*i + 1, To: 4*i + 3})
	}
	got := api.Receiver{Got: full}
	if next, fresh, e := Accept(got, 4*api.MaxSpans+1); !same(next, api.Receiver{}) || fresh || e != api.ErrLimit {
		t.Error(e)
	}
	if _, _, e := Accept(got, 3); e != api.OK {
		t.Error(e)
	}
	if _, e := Lose(got, 4*api.MaxSpans); e != api.ErrLimit {
		t.Error(e)
	}
	if _, e := Lose(got, 4*api.MaxSpans-4); e != api.OK {
		t.Error(e)
	}
	wide := slices.Clone(full)
	wide[0].From = 0
	if _, _, e := Accept(api.Receiver{Lost: wide}, 1); e != api.ErrLimit {
		t.Error(e)
	}
	if !reflect.DeepEqual(full[0], api.Span{From: 1, To: 3}) {
		t.Error("changed")
	}
}
