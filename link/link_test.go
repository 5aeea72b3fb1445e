package link

import (
	"math/rand"
	"reflect"
	"slices"
	"strconv"
	"strings"
	"testing"

	"seismonet/api"
)

func wire(now, order int, items ...api.Transit) api.Wire {
	return api.Wire{Now: now, Order: order, Items: items}
}

var long = strings.Repeat("a", api.MaxMessage+1)

func invalid() []api.Wire {
	m := func(at, order int) api.Transit { return api.Transit{At: at, Order: order} }
	many := wire(0, 2*api.MaxWire)
	for i := range api.MaxWire + 1 {
		many.Items = append(many.Items, m(1, i))
	}
	return []api.Wire{
		wire(-1, 0), wire(api.MaxTick+1, 0), wire(0, -1), wire(0, api.MaxTick+1), many,
		wire(0, 1, api.Transit{At: 1, Data: long}), wire(5, 1, m(5, 0)), wire(5, 1, m(2*api.MaxTick+1, 0)), wire(5, 1, m(6, 1)), wire(5, 1, m(6, -1)),
		wire(0, 9, m(1, 2), m(1, 2)), wire(0, 9, m(1, 3), m(1, 2)), wire(0, 9, m(2, 2), m(1, 3)), wire(-1<<63, 1<<63-1, m(1, 1)),
	}
}

func TestValid(t *testing.T) {
	w := New()
	if !Valid(w) || w.Now != 0 || w.Order != 0 || len(w.Items) != 0 {
		t.Error(w)
	}
	if !Valid(wire(5, 4, api.Transit{At: 6, Order: 3, Data: long[1:]}, api.Transit{At: 7, Order: 0}, api.Transit{At: 2 * api.MaxTick, Order: 0})) {
		t.Error("valid")
	}
	full := invalid()[4]
	full.Items = full.Items[1:]
	if !Valid(full) || len(full.Items) != api.MaxWire {
		t.Error("a full wire")
	}
	for i, w := range invalid() {
		if Valid(w) {
			t.Error(i)
		}
		if got, e := Send(w, "", api.Fault{}); !reflect.DeepEqual(got, api.Wire{}) || e != api.ErrInvalid {
			t.Error(i, e)
		}
		if got, l, e := Tick(w); !reflect.DeepEqual(got, api.Wire{}) || l != nil || e != api.ErrInvalid {
			t.Error(i, e)
		}
		if l, e := Drain(w); l != nil || e != api.ErrInvalid {
			t.Error(i, e)
		}
	}
	for _, c := range []struct {
		f    api.Fault
		want bool
	}{
		{api.Fault{}, true}, {api.Fault{Drop: true, Delay: api.MaxDelay, Copies: api.MaxCopies}, true}, {api.Fault{Delay: -1}, false},
		{api.Fault{Delay: api.MaxDelay + 1}, false}, {api.Fault{Copies: -1}, false}, {api.Fault{Copies: api.MaxCopies + 1}, false},
	} {
		if ValidFault(c.f) != c.want {
			t.Error(c)
		}
		if _, e := Send(w, long, c.f); (e == api.ErrInvalid) == c.want {
			t.Error(c, e)
		}
	}
}

func TestSendAndTick(t *testing.T) {
	w, e := Send(New(), "m", api.Fault{Delay: 2, Copies: 1})
	want := wire(0, 1, api.Transit{At: 3, Data: "m"}, api.Transit{At: 4, Data: "m"})
	if !reflect.DeepEqual(w, want) || e != api.OK {
		t.Error(w, e)
	}
	w, _ = Send(w, "n", api.Fault{Delay: 3})
	w, _ = Send(w, "o", api.Fault{})
	w, _ = Send(w, "p", api.Fault{Drop: true, Copies: 3})
	if w.Order != 4 || len(w.Items) != 4 {
		t.Error(w)
	}
	for _, want := range [][]string{{"o"}, nil, {"m"}, {"m", "n"}, nil} {
		var l []string
		w, l, e = Tick(w)
		if !slices.Equal(l, want) || e != api.OK {
			t.Error(w.Now, l, e)
		}
	}
	if w.Now != 5 || w.Order != 4 || len(w.Items) != 0 {
		t.Error(w)
	}
}

func TestRandomFaults(t *testing.T) {
	r := rand.New(rand.NewSource(4))
	w := New()
	count := map[string]int{}
	want := map[string]int{}
	first := map[string]int{}
	for i := range 300 {
		name := strconv.Itoa(i)
		f := api.Fault{Drop: r.Intn(4) == 0, Delay: r.Intn(9), Copies: r.Intn(4)}
		before := reflect.ValueOf(w).Interface().(api.Wire)
		items := slices.Clone(w.Items)
		var e api.Errno
		w, e = Send(w, name, f)
		if e != api.OK || !Valid(w) || !slices.Equal(before.Items, items) {
			t.Fatal(w, e)
		}
		if !f.Drop {
			want[name] = 1 + f.Copies
			first[name] = w.Now + f.Delay + 1
		}
		if r.Intn(2) == 0 {
			var l []string
			w, l, _ = Tick(w)
			for _, m := range l {
				if count[m] == 0 && first[m] != w.Now {
					t.Error(m, w.Now, first[m])
				}
				count[m]++
			}
		}
	}
	rest, e := Drain(w)
	if e != api.OK || !slices.Equal(rest, w.Items) {
		t.Error(e)
	}
	for _, m := range rest {
		count[m.Data]++
	}
	if !reflect.DeepEqual(count, want) {
		t.Error(count, want)
	}
}

func TestLimits(t *testing.T) {
	if _, e := Send(New(), long, api.Fault{Drop: true}); e != api.ErrLimit {
		t.Error(e)
	}
	if _, e := Send(New(), long[1:], api.Fault{}); e != api.OK {
		t.Error(e)
	}
	if _, e := Send(wire(0, api.MaxTick), "", api.Fault{Drop: true}); e != api.ErrLimit {
		t.Error(e)
	}
	w := New()
	for range api.MaxWire - 2 {
		w, _ = Send(w, "", api.Fault{})
	}
	if _, e := Send(w, "", api.Fault{Copies: 2}); e != api.ErrLimit {
		t.Error(e)
	}
	if got, e := Send(w, "", api.Fault{Copies: 1}); e != api.OK || len(got.Items) != api.MaxWire {
		t.Error(e)
	}
	if _, e := Send(w, "", api.Fault{Drop: true, Copies: 8}); e != api.OK {
		t.Error(e)
	}
	if _, _, e := Tick(wire(api.MaxTick, 0)); e != api.ErrLimit {
		t.Error(e)
	}
	if w, e := Send(wire(api.MaxTick, 0), "", api.Fault{Delay: api.MaxDelay, Copies: 8}); e != api.OK || !Valid(w) {
		t.Error(e)
	}
}

func TestNext(t *testing.T) {
	if n, ok := Next(New()); n != 0 || ok {
		t.Error(n, ok)
	}
	if n, ok := Next(wire(-4, 0, api.Transit{At: 5}, api.Transit{At: -7}, api.Transit{At: 9})); n != -7 || !ok {
		t.Error(n, ok)
	}
}
