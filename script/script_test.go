package script

import (
	"math/rand"
	"reflect"
	"slices"
	"strings"
	"testing"

	"seismonet/api"
	"seismonet/catalogue"
	"seismonet/centre"
	"seismonet/example"
	"seismonet/feed"
)

const far = 1 << 60

var (
	here = api.Position{X: 7, Y: 12, Z: 3}
	id   = api.SourceID{Network: "AB", Station: "S1", Location: "00", Channel: "BHZ"}
)

func rec() api.Record {
	return api.Record{Source: id, Start: 5, First: 6, Rate: api.Rate{Num: 100, Den: 1}, Error: 7, Run: 8, Seq: 9, Samples: []int{1, -2, 3}}
}

func lines() map[string]api.Op {
	return map[string]api.Op{
		"record AB.S1.00.BHZ 5 6 100 1 7 8 9 1 -2 3": {Kind: api.OpRecord, Record: rec()},
		"place AB.S1.00.BHZ 5 -6 7 -8":               {Kind: api.OpPlace, Source: id, From: 5, Position: api.Position{X: -6, Y: 7, Z: -8}},
		"end AB.S1.00.BHZ 0 5000000":                 {Kind: api.OpEnd, Source: id, To: 5000000},
		"tick 1152921504606846976":                   {Kind: api.OpTick, Now: far},
		"tick -1152921504606846976":                  {Kind: api.OpTick, Now: -far},
		"review 3 eve":                               {Kind: api.OpReview, ID: 3, By: "eve"},
		"delete 0 abcdefghijklmnop":                  {Kind: api.OpDelete, By: "abcdefghijklmnop"},
		"merge -1 2 z":                               {Kind: api.OpMerge, ID: -1, Into: 2, By: "z"},
		"release 4 bob":                              {Kind: api.OpRelease, ID: 4, By: "bob"},
		"recover":                                    {Kind: api.OpRecover},
	}
}

func TestLines(t *testing.T) {
	for line, o := range lines() {
		if s, e := Line(o); !Valid(o) || s != line || e != api.OK {
			t.Error(line, s, e)
		}
		if back, e := ParseLine(line); !reflect.DeepEqual(back, o) || e != api.OK {
			t.Error(line, back, e)
		}
		for _, bad := range []string{line + " ", " " + line, line + "\n", line + " x", line + " 05", strings.ToUpper(line), strings.Replace(line, " ", "  ", 1) + "  ", line[1:]} {
			if o, e := ParseLine(bad); !reflect.DeepEqual(o, api.Op{}) || e != api.ErrFormat {
				t.Error(bad, o, e)
			}
		}
	}
	for _, bad := range []string{
		"", "tick", "tick 05", "tick +5", "tick -0", "tick 5 6", "tick 1152921504606846977", "tick 99999999999999999999", "tick x", "tick ", "recover 1", "review 3", "review eve 3", "review 3 Eve", "review 3 abcdefghijklmnopq", "review 3 e e", "merge 1 eve",
		"end AB.S1.00.BHZ 0", "end AB.S1.00 0 5", "end ab.S1.00.BHZ 0 5", "end 0 5 AB.S1.00.BHZ", "place AB.S1.00.BHZ 5 6 7", "record AB.S1.00.BHZ 5 6 100 1 7 8 9", "record AB.S1.00.BHZ 5 6 100 1 7 8 9 1 02", "record AB.S1.00.BHZ 5 6 100/1 7 8 9 1 2",
		"record AB.S1.00.BHZ 5 6 100 1 7 8 9" + strings.Repeat(" 1", api.MaxSamples+1), "walk 5", "\xff",
	} {
		if o, e := ParseLine(bad); !reflect.DeepEqual(o, api.Op{}) || e != api.ErrFormat {
			t.Error(bad, o, e)
		}
	}
}

func TestValid(t *testing.T) {
	for line, o := range lines() {
		word, _, _ := strings.Cut(line, " ")
		for i, f := range []func(o *api.Op){
			func(o *api.Op) { o.Kind = 0 }, func(o *api.Op) { o.Kind = 10 }, func(o *api.Op) { o.Record.Seq++; o.Now++; o.ID++ }, func(o *api.Op) { o.Source = id; o.By = "eve"; o.Record = rec() }, func(o *api.Op) { o.Position.X++; o.Into++; o.Now++ },
		} {
			x := o
			f(&x)
			if s, e := Line(x); Valid(x) || s != "" || e != api.ErrInvalid {
				t.Error(word, i, s, e)
			}
		}
	}
	record, place, end, tick, review, merge := api.Op{Kind: api.OpRecord, Record: rec()}, lines()["place AB.S1.00.BHZ 5 -6 7 -8"], lines()["end AB.S1.00.BHZ 0 5000000"], api.Op{Kind: api.OpTick}, lines()["review 3 eve"], lines()["merge -1 2 z"]
	long := make([]int, api.MaxSamples+1)
	for i, c := range []struct {
		o    api.Op
		f    func(o *api.Op)
		want bool
	}{
		{record, func(o *api.Op) { o.Record.Samples = long[1:] }, true}, {record, func(o *api.Op) { o.Record.Samples = long }, false}, {record, func(o *api.Op) { o.Record.Samples = nil }, false}, {record, func(o *api.Op) { o.Record.Samples = []int{far} }, true},
		{record, func(o *api.Op) { o.Record.Samples = []int{far + 1} }, false}, {record, func(o *api.Op) { o.Record.Start = -far - 1 }, false}, {record, func(o *api.Op) { o.Record.First = far + 1 }, false}, {record, func(o *api.Op) { o.Record.Rate.Num = far + 1 }, false},
		{record, func(o *api.Op) { o.Record.Rate.Den = -far }, true}, {record, func(o *api.Op) { o.Record.Rate.Den = far + 1 }, false}, {record, func(o *api.Op) { o.Record.Error = far + 1 }, false}, {record, func(o *api.Op) { o.Record.Run = far + 1 }, false}, {record, func(o *api.Op) { o.Record.Seq = far + 1 }, false},
		{record, func(o *api.Op) { o.Record.Source.Channel = "" }, false}, {record, func(o *api.Op) { o.Source = id }, false}, {place, func(o *api.Op) { o.Source = api.SourceID{} }, false}, {place, func(o *api.Op) { o.To = 1 }, false}, {place, func(o *api.Op) { o.Position.Z = far + 1 }, false},
		{place, func(o *api.Op) { o.Position.Y = -far - 1 }, false}, {place, func(o *api.Op) { o.Position.X = far + 1 }, false}, {end, func(o *api.Op) { o.From = far + 1 }, false}, {end, func(o *api.Op) { o.To = far + 1 }, false}, {end, func(o *api.Op) { o.Position.X = 1 }, false},
		{tick, func(o *api.Op) { o.Now = far + 1 }, false}, {tick, func(o *api.Op) { o.By = "eve" }, false}, {tick, func(o *api.Op) { o.Record.Samples = []int{1} }, false}, {tick, func(o *api.Op) { o.Record.Samples = []int{} }, true}, {review, func(o *api.Op) { o.By = "" }, false}, {review, func(o *api.Op) { o.By = "e1" }, false},
		{review, func(o *api.Op) { o.Into = 1 }, false}, {review, func(o *api.Op) { o.ID = far + 1 }, false}, {merge, func(o *api.Op) { o.Into = far + 1 }, false},
	} {
		c.f(&c.o)
		if Valid(c.o) != c.want {
			t.Error(i)
		}
	}
}

func TestTexts(t *testing.T) {
	var l []api.Op
	want := ""
	for line, o := range lines() {
		l = append(l, o)
		want += line + "\n"
	}
	s, e := Format(l)
	if s != want || e != api.OK {
		t.Error(s, e)
	}
	if back, line, e := Parse(s); !reflect.DeepEqual(back, l) || line != 0 || e != api.OK {
		t.Error(back, line, e)
	}
	if s, e := Format(nil); s != "" || e != api.OK {
		t.Error(s, e)
	}
	tick := api.Op{Kind: api.OpTick}
	long := api.Op{Kind: api.OpRecord, Record: rec()}
	long.Record.Samples = slices.Repeat([]int{1000000}, 400)
	for i, c := range []struct {
		l    []api.Op
		want api.Errno
	}{
		{slices.Repeat([]api.Op{{}}, api.MaxOps+1), api.ErrLimit}, {slices.Repeat([]api.Op{tick}, api.MaxOps), api.OK}, {append(slices.Repeat([]api.Op{long}, 30), api.Op{}), api.ErrInvalid}, {slices.Repeat([]api.Op{long}, 30), api.ErrLimit}, {slices.Repeat([]api.Op{long}, 20), api.OK},
	} {
		if s, e := Format(c.l); e != c.want || e != api.OK && s != "" {
			t.Error(i, e)
		}
	}
	many := strings.Repeat("tick 0\n", api.MaxOps)
	for i, c := range []struct {
		s    string
		line int
		want api.Errno
	}{
		{"", 0, api.OK}, {many, 0, api.OK}, {many + "tick 0\n", api.MaxOps + 1, api.ErrLimit}, {many + "tick 0", api.MaxOps + 1, api.ErrFormat}, {many + "tick 0\ntick\n", api.MaxOps + 2, api.ErrFormat}, {"\n", 1, api.ErrFormat}, {"tick 0\n\n", 2, api.ErrFormat}, {"tick 0\nrecover", 2, api.ErrFormat},
		{strings.Repeat("\n", api.MaxText+1), 0, api.ErrLimit}, {strings.Repeat("\n", api.MaxText), 1, api.ErrFormat}, {"tick 0\r\n", 1, api.ErrFormat},
	} {
		if l, line, e := Parse(c.s); line != c.line || e != c.want || e != api.OK && l != nil {
			t.Error(i, line, e)
		}
	}
}

func start(t *testing.T) api.Centre {
	t.Helper()
	c, e := centre.New(example.Setup(), example.Inventory())
	if e != api.OK {
		t.Fatal(e)
	}
	return c
}

// story returns operations among which an event is found, reviewed, moved and deleted.
func story() []api.Op {
	var l []api.Op
	for _, r := range example.Records(here, 10*api.Second+123456, 500) {
		l = append(l, api.Op{Kind: api.OpRecord, Record: r})
	}
	l = append(l, api.Op{Kind: api.OpTick, Now: 14 * api.Second}, api.Op{Kind: api.OpPlace, Source: example.Source(1), Position: api.Position{X: 28}}, api.Op{Kind: api.OpTick, Now: 15 * api.Second})
	for _, r := range example.Records(here, 30*api.Second, 4000) {
		l = append(l, api.Op{Kind: api.OpRecord, Record: r})
	}
	return append(l,
		api.Op{Kind: api.OpTick, Now: 34 * api.Second}, api.Op{Kind: api.OpReview, ID: 0, By: "eve"}, api.Op{Kind: api.OpReview, ID: 1, By: "eve"}, api.Op{Kind: api.OpRelease, ID: 1, By: "eve"}, api.Op{Kind: api.OpRecover}, api.Op{Kind: api.OpDelete, ID: 1, By: "bob"}, api.Op{Kind: api.OpTick, Now: 40 * api.Second},
		api.Op{Kind: api.OpRelease, ID: 1, By: "bob"}, api.Op{Kind: api.OpMerge, ID: 1, Into: 0, By: "bob"}, api.Op{Kind: api.OpEnd, Source: example.Source(2), To: 20 * api.Second}, api.Op{Kind: api.OpTick, Now: 41 * api.Second})
}

// do applies an operation by the definition.
func do(c api.Centre, o api.Op) (next api.Centre, b []api.Bulletin, e api.Errno) {
	act := api.Act{ID: o.ID, Into: o.Into, By: o.By}
	change := func(i int, f func(x *api.Epoch)) (api.Centre, api.Errno) {
		epoch := centre.Inventory(c).Channels[i].Epochs[0]
		f(&epoch)
		return centre.Correct(c, api.Change{Kind: api.ChangeReplace, Source: o.Source, From: o.From, Epoch: epoch})
	}
	switch o.Kind {
	case api.OpRecord:
		next, _, e = centre.Receive(c, o.Record)
	case api.OpPlace:
		next, e = change(1, func(x *api.Epoch) { x.Position = o.Position })
	case api.OpEnd:
		next, e = change(2, func(x *api.Epoch) { x.To = o.To })
	case api.OpTick:
		return centre.Tick(c, o.Now)
	case api.OpRecover:
		next, e = centre.Recover(c)
	default:
		act.Kind = map[int]int{api.OpReview: api.Reviewed, api.OpDelete: api.Deleted, api.OpMerge: api.Merged, api.OpRelease: api.Released}[o.Kind]
		if o.Kind == api.OpReview {
			v := c.Catalogue.Entries[o.ID].Versions
			act.Event = v[len(v)-1].Event
		}
		next, e = centre.Do(c, act)
	}
	return next, nil, e
}

func TestApplyAndRun(t *testing.T) {
	c := start(t)
	told := 0
	for i, o := range story() {
		want, b, e := do(c, o)
		if e != api.OK {
			t.Fatal(i, e)
		}
		got, bulletins, e := Apply(c, o)
		if !centre.Same(got, want) || !reflect.DeepEqual(bulletins, b) || e != api.OK {
			t.Fatal(i, o, e)
		}
		told += len(b)
		c = got
	}
	if told < 4 || len(c.Bulletins) != told || !feed.History(c.Bulletins) || len(c.Catalogue.Entries[0].Versions) != 3 {
		t.Error(told, c.Catalogue)
	}
	s, _ := Format(story())
	got, line, e := Run(example.Setup(), example.Inventory(), s)
	if !centre.Same(got, c) || line != 0 || e != api.OK {
		t.Error(line, e)
	}
	for n := range story() {
		s, _ := Format(story()[:n])
		half, _, _ := Run(example.Setup(), example.Inventory(), s)
		for _, o := range story()[n:] {
			half, _, e = Apply(half, o)
		}
		if !centre.Same(half, c) || e != api.OK {
			t.Error(n, e)
		}
	}
}

func TestApplyErrors(t *testing.T) {
	c := start(t)
	for i, x := range []struct {
		o    api.Op
		want api.Errno
	}{
		{api.Op{}, api.ErrInvalid}, {api.Op{Kind: api.OpTick, ID: 1}, api.ErrInvalid}, {api.Op{Kind: api.OpRecord, Record: api.Record{Source: id, Samples: []int{1}}}, api.ErrInvalid}, {api.Op{Kind: api.OpPlace, Source: id}, api.ErrNotFound}, {api.Op{Kind: api.OpPlace, Source: example.Source(0), From: 1}, api.ErrNotFound},
		{api.Op{Kind: api.OpPlace, Source: example.Source(0), Position: api.Position{X: 1 << 30}}, api.ErrInvalid}, {api.Op{Kind: api.OpEnd, Source: example.Source(0)}, api.ErrInvalid}, {api.Op{Kind: api.OpEnd, Source: example.Source(0), From: 7}, api.ErrNotFound}, {api.Op{Kind: api.OpTick, Now: -1}, api.ErrRange},
		{api.Op{Kind: api.OpReview, By: "eve"}, api.ErrNotFound}, {api.Op{Kind: api.OpReview, ID: -1, By: "eve"}, api.ErrNotFound}, {api.Op{Kind: api.OpDelete, By: "eve"}, api.ErrNotFound}, {api.Op{Kind: api.OpMerge, By: "eve"}, api.ErrNotFound}, {api.Op{Kind: api.OpRelease, By: "eve"}, api.ErrNotFound},
	} {
		if got, b, e := Apply(c, x.o); !centre.Same(got, api.Centre{}) || b != nil || e != x.want {
			t.Error(i, e)
		}
	}
}

func TestRunErrors(t *testing.T) {
	bad := example.Setup()
	bad.Joining = -1
	u, inv := example.Setup(), example.Inventory()
	for i, x := range []struct {
		u    api.Setup
		inv  api.Inventory
		s    string
		line int
		want api.Errno
	}{
		{bad, inv, "tick 1\ntick", 2, api.ErrFormat}, {bad, inv, strings.Repeat("x", api.MaxText+1), 0, api.ErrLimit}, {bad, inv, strings.Repeat("tick 1\n", 501), 501, api.ErrLimit}, {bad, inv, "tick 1\n", 0, api.ErrSettings}, {u, api.Inventory{Channels: make([]api.Channel, 1)}, "", 0, api.ErrInvalid},
	} {
		if c, line, e := Run(x.u, x.inv, x.s); !centre.Same(c, api.Centre{}) || line != x.line || e != x.want {
			t.Error(i, line, e)
		}
	}
	c, line, e := Run(u, inv, "tick 1\ntick 7\ntick 5\ntick 9\n")
	if c.Now != 7 || line != 3 || e != api.ErrOrder {
		t.Error(c.Now, line, e)
	}
	if c, line, e := Run(u, inv, ""); !centre.Same(c, start(t)) || line != 0 || e != api.OK {
		t.Error(line, e)
	}
}

// Losing the results changes nothing behind the next tick.
func TestRecoverAnywhere(t *testing.T) {
	r := rand.New(rand.NewSource(41))
	s, _ := Format(story())
	want, _, _ := Run(example.Setup(), example.Inventory(), s)
	for range 6 {
		l := slices.Insert(story(), r.Intn(len(story())), api.Op{Kind: api.OpRecover})
		s, _ := Format(l)
		if c, line, e := Run(example.Setup(), example.Inventory(), s); !centre.Same(c, want) || line != 0 || e != api.OK {
			t.Error(line, e)
		}
	}
	if !catalogue.Valid(want.Catalogue) {
		t.Error(want.Catalogue)
	}
}

func TestLongestText(t *testing.T) {
	long := api.Op{Kind: api.OpRecord, Record: rec()}
	long.Record.Samples = slices.Repeat([]int{1000000}, 400)
	l := slices.Repeat([]api.Op{long}, 20)
	s, _ := Format(l)
	rest := api.MaxText - len(s)
	for ; rest >= 40; rest -= len("recover\n") {
		l = append(l, api.Op{Kind: api.OpRecover})
	}
	now := 1
	for range rest - len("tick 1\n") {
		if now < 100000000000000000 {
			now *= 10
			rest--
		}
	}
	l = append(l, api.Op{Kind: api.OpTick, Now: now})
	for rest -= len("tick 1\n"); rest > 0; rest-- {
		l[0].Record.Samples = append([]int{l[0].Record.Samples[0] * 10}, l[0].Record.Samples[1:]...)
	}
	s, e := Format(l)
	if back, _, f := Parse(s); len(s) != api.MaxText || e != api.OK || f != api.OK || !reflect.DeepEqual(back, l) {
		t.Error(len(s), e, f)
	}
	l[0].Record.Samples[1] *= 10
	if s, e := Format(l); s != "" || e != api.ErrLimit {
		t.Error(len(s), e)
	}
}
