// Package contract checks the rules of the document that hold for all functions.
package contract

import (
	"fmt"
	"maps"
	"math/rand"
	"reflect"
	"slices"
	"strings"
	"testing"

	"seismonet/api"
	"seismonet/centre"
	"seismonet/example"
	"seismonet/feed"
	"seismonet/inventory"
	"seismonet/locate"
	"seismonet/packet"
	"seismonet/proof"
	"seismonet/record"
	"seismonet/reprocess"
	"seismonet/script"
	"seismonet/session"
	"seismonet/solution"
	"seismonet/source"
	"seismonet/steim"
)

const rounds = 100 // calls of each function

// pool has values that are worth starting from, by their types.
type pool map[reflect.Type][]reflect.Value

func (p pool) add(l ...any) {
	for _, x := range l {
		v := reflect.ValueOf(x)
		p[v.Type()] = append(p[v.Type()], v)
	}
}

// addParts adds a value and all values within it.
func (p pool) addParts(v reflect.Value, most int) {
	if l := p[v.Type()]; len(l) < most {
		p[v.Type()] = append(l, v)
	}
	switch v.Kind() {
	case reflect.Struct:
		for i := range v.NumField() {
			p.addParts(v.Field(i), most)
		}
	case reflect.Slice:
		for i := range min(v.Len(), 12) {
			p.addParts(v.Index(i), most)
		}
	}
}

func finished(t *testing.T) api.Centre {
	t.Helper()
	c, _ := centre.New(example.Setup(), example.Inventory())
	var l []api.Op
	for _, r := range example.Records(api.Position{X: 7, Y: 12, Z: 3}, 10*api.Second, 500) {
		l = append(l, api.Op{Kind: api.OpRecord, Record: r})
	}
	l = append(l, api.Op{Kind: api.OpTick, Now: 12 * api.Second}, api.Op{Kind: api.OpPlace, Source: example.Source(1), Position: api.Position{X: 28}}, api.Op{Kind: api.OpReview, By: "eve"})
	for _, r := range example.Records(api.Position{X: 20, Y: 9}, 30*api.Second, 4000) {
		l = append(l, api.Op{Kind: api.OpRecord, Record: r})
	}
	l = append(l, api.Op{Kind: api.OpTick, Now: 34 * api.Second})
	for _, o := range l {
		var e api.Errno
		if c, _, e = script.Apply(c, o); e != api.OK {
			t.Fatal(e)
		}
	}
	return c
}

func values(t *testing.T) pool {
	t.Helper()
	p := pool{}
	c := finished(t)
	event := reprocess.Events(c.Progress)[0]
	problem, _ := solution.Problem(c.Setup.Settings, example.Inventory(), event.Solution.Picks)
	location, _ := locate.Locate(problem, 50000)
	certificate, _ := proof.Make(problem, location, 50000)
	s, _ := session.New(8, 2)
	s, _, _ = session.Push(s, "abc", api.Fault{Copies: 2})
	s, _, _ = session.Push(s, "def", api.Fault{Drop: true})
	s, _ = session.Run(s, 5)
	gain := api.Stage{Kind: api.StageGain, Num: [3]int{2}, Den: [3]int{3}}
	filter := api.Stage{Kind: api.StageFilter, Taps: []int{1, 2, 1}, Factor: 2, Shift: 2}
	pack := api.Packet{Source: example.Source(0), Rate: api.Rate{Num: 100, Den: 1}, Samples: []int{5, 6, 4}}
	data, _ := packet.Encode(pack)
	frames, _ := steim.Encode(pack.Samples)
	text, _ := inventory.Format(nil, example.Inventory())
	bulletin, _ := feed.Encode(c.Bulletins[0])
	name, _ := source.Format(pack.Source)
	p.add(c, problem, location, certificate, pack, data, frames, text, bulletin, name, "*.*.*.HH?", "eve", "tick 5\nrecover\n", "1970-01-01T00:00:01.000000Z", "abcdefghijklmno")
	p.add([]int{86400, 172801}, filter, gain, api.Response{Stages: []api.Stage{gain, filter}}, api.Filter{Taps: []int{1, 2, 1}, Factor: 2, Shift: 2}, api.Feed{Filter: api.Filter{Taps: []int{1, 1}, Factor: 1, Shift: 1}, Past: []int{3}, Number: 7})
	p.add(api.Watch{Detector: c.Setup.Picking.Detector, Open: api.Trigger{On: -1}}, api.Segment{Rate: pack.Rate, Samples: c.Archive.Stores[0].Records[0].Samples}, api.Nat{1, 2, 3}, api.Fraction{Num: api.Nat{1}, Den: api.Nat{0, 5}})
	p.add([]api.Phase(problem.Phases), []api.Anchor{{Tag: 5, Low: 6, High: 9}, {Tag: 50, Low: 51, High: 60}}, api.Trigger{On: 50, Off: 60, Peak: 7}, []api.Span{{From: 3, To: 5}, {From: 1, To: 9}}, api.Op{Kind: api.OpTick, Now: 40 * api.Second})
	first, second := c.Archive.Stores[0].Records[0], c.Archive.Stores[0].Records[0]
	second.Start, second.Seq, second.Samples = first.Start+1000000, 1, first.Samples[100:300]
	p.add([]api.Record{first, second}, "channel GR.FUR..HHZ\nepoch 1970-01-01T00:00:01.000000Z 1970-01-02T00:00:00.000000Z 100/1 -5 6 -7\ngain 2 3\nsection 1 -2 3 4 -5 6\nfilter 2 3 1 -2 5\n", "12345678901234567890")
	p.add(api.Stage{Kind: api.StageSection, Num: [3]int{1, 2, 3}, Den: [3]int{4, 5, 6}}, api.Filter{Taps: []int{1, -1}, Factor: 1, Shift: 2}, "1970-01-01T23:59:60.000000Z")
	p.add(api.Act{Kind: api.Deleted, By: "eve"}, []api.Arrival{{Seq: 0, Data: bulletin}}, api.Civil{Year: 2000, Month: 2, Day: 29}, []api.Fault{{Delay: 2}}, []api.Estimate{{Low: 1, High: 3}}, api.Group{Members: []int{0, 1, 2}})
	for _, x := range []any{c, problem, location, s, pack, api.History{Base: example.Inventory(), Changes: c.History.Changes}} {
		p.addParts(reflect.ValueOf(x), 6)
	}
	return p
}

var ints = []int{
	0, 1, -1, 2, 3, 4, 5, 7, 8, 10, 16, 31, 32, 64, 100, 256, 1000, 4096, 1 << 16, api.Second, 1 << 24, 1 << 30, 1<<30 - 1, 1 << 40, 1 << 53, 1<<53 + 1, 1 << 54, 1 << 60, 1<<60 + 1, 1<<62 + 1, -5, -1 << 30, -1 << 60, -1 << 62, 1<<63 - 1, -1 << 63, -1<<63 + 1,
}

// generator makes arguments.
type generator struct {
	r *rand.Rand
	p pool
}

func (g *generator) fresh(t reflect.Type, depth int) reflect.Value {
	v := reflect.New(t).Elem()
	switch t.Kind() {
	case reflect.Int:
		v.SetInt(int64(ints[g.r.Intn(len(ints))]))
	case reflect.Bool:
		v.SetBool(g.r.Intn(2) == 0)
	case reflect.String:
		b := make([]byte, g.r.Intn(40))
		g.r.Read(b)
		v.SetString([]string{string(b), "", "A", "abc", "..."}[g.r.Intn(5)])
	case reflect.Struct:
		for i := range t.NumField() {
			v.Field(i).Set(g.value(t.Field(i).Type, depth-1))
		}
	case reflect.Array:
		for i := range t.Len() {
			v.Index(i).Set(g.value(t.Elem(), depth-1))
		}
	case reflect.Slice:
		n := g.r.Intn(4)
		if depth <= 0 {
			n = 0
		}
		v = reflect.MakeSlice(t, n, n+2)
		for i := range n {
			v.Index(i).Set(g.value(t.Elem(), depth-1))
		}
	}
	return v
}

// value returns a copy of a known value, often with a change, or a new one.
func (g *generator) value(t reflect.Type, depth int) reflect.Value {
	l := g.p[t]
	if len(l) == 0 || g.r.Intn(5) == 0 {
		return g.fresh(t, depth)
	}
	v := copyOf(l[g.r.Intn(len(l))])
	for g.r.Intn(3) == 0 {
		g.change(v, depth)
	}
	return v
}

// change changes a random part of an addressable value.
func (g *generator) change(v reflect.Value, depth int) {
	switch {
	case v.Kind() == reflect.Struct && g.r.Intn(8) > 0:
		g.change(v.Field(g.r.Intn(v.NumField())), depth-1)
	case v.Kind() == reflect.Slice && v.Len() > 0 && g.r.Intn(4) > 0:
		g.change(v.Index(g.r.Intn(v.Len())), depth-1)
	case v.Kind() == reflect.Slice && v.Len() > 0:
		n := g.r.Intn(v.Len())
		v.Set(reflect.AppendSlice(v.Slice(0, n), v.Slice(n+g.r.Intn(2), v.Len())))
	case v.Kind() == reflect.Int && g.r.Intn(2) == 0:
		v.SetInt(v.Int() + int64(g.r.Intn(5)-2))
	case v.Kind() == reflect.String && v.Len() > 0 && g.r.Intn(3) > 0:
		b := []byte(v.String())
		b[g.r.Intn(len(b))] ^= 1 << g.r.Intn(8)
		v.SetString(string(b))
	default:
		v.Set(g.fresh(v.Type(), depth))
	}
}

// copyOf returns an addressable copy whose slices have some capacity left.
func copyOf(v reflect.Value) reflect.Value {
	c := reflect.New(v.Type()).Elem()
	c.Set(v)
	switch v.Kind() {
	case reflect.Struct:
		for i := range v.NumField() {
			c.Field(i).Set(copyOf(v.Field(i)))
		}
	case reflect.Slice:
		if v.IsNil() {
			return c
		}
		c.Set(reflect.MakeSlice(v.Type(), v.Len(), v.Len()+2))
		for i := range v.Len() {
			c.Index(i).Set(copyOf(v.Index(i)))
		}
	}
	return c
}

// equal compares values, where a nil slice and an empty one are equal.
func equal(a, b reflect.Value) bool {
	switch a.Kind() {
	case reflect.Struct:
		for i := range a.NumField() {
			if !equal(a.Field(i), b.Field(i)) {
				return false
			}
		}
		return true
	case reflect.Slice:
		if a.Len() != b.Len() {
			return false
		}
		for i := range a.Len() {
			if !equal(a.Index(i), b.Index(i)) {
				return false
			}
		}
		return true
	}
	return a.Interface() == b.Interface()
}

// memory calls f with the bounds of the memory of each slice of a value.
func memory(v reflect.Value, f func(from, to uintptr)) {
	switch v.Kind() {
	case reflect.Struct:
		for i := range v.NumField() {
			memory(v.Field(i), f)
		}
	case reflect.Slice:
		if v.Cap() > 0 && v.Type().Elem().Size() > 0 {
			f(v.Pointer(), v.Pointer()+uintptr(v.Cap())*v.Type().Elem().Size())
		}
		for i := range v.Len() {
			memory(v.Index(i), f)
		}
	}
}

// shared reports whether slices of the results share memory with each other or with the arguments.
func shared(args, results []reflect.Value) bool {
	type block struct {
		from, to uintptr
		result   bool
	}
	var blocks []block
	for _, v := range args {
		memory(v, func(from, to uintptr) { blocks = append(blocks, block{from, to, false}) })
	}
	for _, v := range results {
		memory(v, func(from, to uintptr) { blocks = append(blocks, block{from, to, true}) })
	}
	slices.SortFunc(blocks, func(a, b block) int {
		if a.from < b.from {
			return -1
		}
		return 1
	})
	for i := 1; i < len(blocks); i++ {
		a, b := blocks[i-1], blocks[i]
		if (a.result || b.result) && b.from < a.to {
			return true
		}
	}
	return false
}

// mayTellMore are the functions whose chapters define other results together with an error.
var mayTellMore = map[string]bool{"packet.Split": true, "script.Run": true, "script.Parse": true, "inventory.Parse": true}

func failed(results []reflect.Value) bool {
	for _, v := range results {
		if e, ok := v.Interface().(api.Errno); ok && e != api.OK {
			return true
		}
	}
	return false
}

func call(t *testing.T, name string, f reflect.Value, args []reflect.Value) []reflect.Value {
	t.Helper()
	defer func() {
		if x := recover(); x != nil {
			t.Fatal(name, "panics:", x, show(args))
		}
	}()
	return f.Call(args)
}

func show(args []reflect.Value) string {
	var words []string
	for _, v := range args {
		words = append(words, fmt.Sprintf("%+v", v))
	}
	s := strings.Join(words, " | ")
	return s[:min(len(s), 2000)]
}

func checkCall(t *testing.T, name string, f reflect.Value, args []reflect.Value) {
	t.Helper()
	var before []reflect.Value
	for _, v := range args {
		before = append(before, copyOf(v))
	}
	results := call(t, name, f, args)
	for i := range args {
		if !equal(args[i], before[i]) {
			t.Fatal(name, "changes its argument", i, show(before))
		}
	}
	if shared(args, results) {
		t.Fatal(name, "shares memory", show(before))
	}
	for i, v := range call(t, name, f, args) {
		if !equal(v, results[i]) {
			t.Fatal(name, "has two results", show(before))
		}
		_, isErrno := v.Interface().(api.Errno)
		if failed(results) && !isErrno && !mayTellMore[name] && !equal(v, reflect.Zero(v.Type())) {
			t.Fatal(name, "returns something with an error", show(before))
		}
	}
}

func TestRulesOfAllFunctions(t *testing.T) {
	g := &generator{r: rand.New(rand.NewSource(42)), p: values(t)}
	fs := functions()
	for _, name := range slices.Sorted(maps.Keys(fs)) {
		f := fs[name]
		for range rounds {
			var args []reflect.Value
			for i := range f.Type().NumIn() {
				args = append(args, g.value(f.Type().In(i), 4))
			}
			checkCall(t, name, f, args)
		}
	}
}

func TestRecordsOfThePoolAreValid(t *testing.T) {
	for _, v := range values(t)[reflect.TypeFor[api.Record]()] {
		if r, ok := v.Interface().(api.Record); !ok || len(r.Samples) > 0 && !record.Valid(r) {
			t.Error(v)
		}
	}
}
