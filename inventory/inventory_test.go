package inventory

import (
	"slices"
	"strings"
	"testing"

	"seismonet/api"
)

var (
	leaps = []int{86400}
	a     = api.SourceID{Network: "GR", Station: "FUR", Channel: "HHZ"}
	b     = api.SourceID{Network: "GR", Station: "FUR", Location: "00", Channel: "HHZ"}
)

const text = `channel GR.FUR..HHZ
epoch 1970-01-01T00:00:01.000000Z 1970-01-01T23:59:60.500000Z 100/1 -5 6 -7
gain 2 3
section 1 -2 3 4 -5 6
filter 2 3 1 -2 1000000
epoch 1970-01-01T23:59:60.500000Z 1970-01-03T00:00:00.000000Z 1/10 1048576 -1048576 -16384
channel GR.FUR.00.HHZ
epoch 1970-01-01T00:00:00.000000Z 2255-06-05T23:47:33.740992Z 4096/4095 0 0 1048576
`

func epoch(from, to int, stages ...api.Stage) api.Epoch {
	return api.Epoch{From: from, To: to, Rate: api.Rate{Num: 100, Den: 1}, Response: api.Response{Stages: stages}}
}

func example() api.Inventory {
	first := epoch(api.Second, 86400*api.Second+500000,
		api.Stage{Kind: api.StageGain, Num: [3]int{2}, Den: [3]int{3}},
		api.Stage{Kind: api.StageSection, Num: [3]int{1, -2, 3}, Den: [3]int{4, -5, 6}},
		api.Stage{Kind: api.StageFilter, Factor: 2, Shift: 3, Taps: []int{1, -2, 1000000}})
	first.Position = api.Position{X: -5, Y: 6, Z: -7}
	second := epoch(86400*api.Second+500000, (2*86400+1)*api.Second)
	second.Rate = api.Rate{Num: 1, Den: 10}
	second.Position = api.Position{X: api.MaxPlace, Y: -api.MaxPlace, Z: api.MinDepth}
	third := epoch(0, api.MaxTime)
	third.Rate = api.Rate{Num: 4096, Den: 4095}
	third.Position.Z = api.MaxPlace
	return api.Inventory{Channels: []api.Channel{{Source: a, Epochs: []api.Epoch{first, second}}, {Source: b, Epochs: []api.Epoch{third}}}}
}

func with(f func(inv *api.Inventory)) api.Inventory {
	inv := example()
	f(&inv)
	return inv
}

func invalid() []api.Inventory {
	many := api.Inventory{}
	for i := range api.MaxChannels + 1 {
		s := a
		s.Station = string([]byte{byte('A' + i/26), byte('A' + i%26)})
		many.Channels = append(many.Channels, api.Channel{Source: s, Epochs: []api.Epoch{epoch(0, 1)}})
	}
	var epochs []api.Epoch
	for i := range api.MaxEpochs + 1 {
		epochs = append(epochs, epoch(i, i+1))
	}
	return []api.Inventory{
		many, with(func(inv *api.Inventory) { inv.Channels[0].Epochs = epochs }), with(func(inv *api.Inventory) { inv.Channels[0].Epochs = nil }),
		with(func(inv *api.Inventory) { inv.Channels[0].Source.Network = "" }), with(func(inv *api.Inventory) { inv.Channels[0].Source = b }), with(func(inv *api.Inventory) { slices.Reverse(inv.Channels) }),
		with(func(inv *api.Inventory) { inv.Channels[0].Epochs[1].From-- }), with(func(inv *api.Inventory) { slices.Reverse(inv.Channels[0].Epochs) }),
		with(func(inv *api.Inventory) { inv.Channels[1].Epochs[0].To++ }), with(func(inv *api.Inventory) { inv.Channels[1].Epochs[0].From = -1 }), with(func(inv *api.Inventory) { inv.Channels[1].Epochs[0].To = 0 }),
		with(func(inv *api.Inventory) { inv.Channels[0].Epochs[0].Rate.Num = 0 }), with(func(inv *api.Inventory) { inv.Channels[0].Epochs[0].Position.X = api.MaxPlace + 1 }),
		with(func(inv *api.Inventory) { inv.Channels[0].Epochs[0].Position.Y = -api.MaxPlace - 1 }), with(func(inv *api.Inventory) { inv.Channels[0].Epochs[0].Position.Z = api.MinDepth - 1 }),
		with(func(inv *api.Inventory) { inv.Channels[0].Epochs[0].Position.Z = api.MaxPlace + 1 }), with(func(inv *api.Inventory) { inv.Channels[0].Epochs[0].Response.Stages[0].Num[0] = 0 }),
	}
}

func TestValid(t *testing.T) {
	if !Valid(example()) || !Valid(api.Inventory{}) {
		t.Error("valid")
	}
	all := invalid()
	if !Valid(api.Inventory{Channels: all[0].Channels[1:]}) {
		t.Error("channels")
	}
	for i, inv := range all {
		if Valid(inv) {
			t.Error(i)
		}
		if e, err := At(inv, a, 2*api.Second); !SameEpoch(e, api.Epoch{}) || err != api.ErrInvalid {
			t.Error(i, err)
		}
		if l := Times(inv, a); len(l) != 0 {
			t.Error(i, l)
		}
		if l, e := Sources(inv, "*", 5); l != nil || e != api.ErrInvalid {
			t.Error(i, e)
		}
		if s, e := Format(leaps, inv); s != "" || e != api.ErrInvalid {
			t.Error(i, e)
		}
		if c, ok := Find(inv, inv.Channels[0].Source); !ok || !sameChannel(c, inv.Channels[0]) {
			t.Error(i)
		}
		if Same(inv, example()) || !Same(inv, inv) {
			t.Error(i)
		}
	}
}

func TestFindAndAt(t *testing.T) {
	inv := example()
	c, ok := Find(inv, b)
	if !ok || !sameChannel(c, inv.Channels[1]) {
		t.Error(c, ok)
	}
	c, _ = Find(inv, a)
	c.Epochs[0].Response.Stages[2].Taps[0] = 99
	e, _ := At(inv, a, api.Second)
	e.Response.Stages[2].Taps[0] = 99
	if !Same(inv, example()) {
		t.Error("memory is shared")
	}
	if c, ok := Find(inv, api.SourceID{}); ok || !sameChannel(c, api.Channel{}) {
		t.Error(c)
	}
	change := 86400*api.Second + 500000
	for at, want := range map[int]int{api.Second - 1: -1, api.Second: 0, change - 1: 0, change: 1, 172801*api.Second - 1: 1, 172801 * api.Second: -1, -1: -1} {
		e, err := At(inv, a, at)
		if want < 0 {
			if err != api.ErrNotFound || !SameEpoch(e, api.Epoch{}) {
				t.Error(at, err)
			}
		} else if err != api.OK || !SameEpoch(e, inv.Channels[0].Epochs[want]) {
			t.Error(at, e, err)
		}
	}
	if _, err := At(inv, api.SourceID{Network: "X"}, 5); err != api.ErrNotFound {
		t.Error(err)
	}
}

func TestTimesAndSources(t *testing.T) {
	inv := example()
	if got := Times(inv, a); !slices.Equal(got, []api.Span{{From: api.Second, To: 172801 * api.Second}}) {
		t.Error(got)
	}
	if got := Times(inv, api.SourceID{}); len(got) != 0 {
		t.Error(got)
	}
	for _, c := range []struct {
		pattern string
		at      int
		want    []api.SourceID
		e       api.Errno
	}{
		{"*.*.*.*", api.Second, []api.SourceID{a, b}, api.OK}, {"*.*.*.*", 0, []api.SourceID{b}, api.OK}, {"GR.FUR..*", api.Second, []api.SourceID{a}, api.OK},
		{"XX.*.*.*", api.Second, nil, api.OK}, {"*", api.Second, nil, api.ErrFormat}, {"*.*.*.*", api.MaxTime, nil, api.OK},
	} {
		if got, e := Sources(inv, c.pattern, c.at); !slices.Equal(got, c.want) || e != c.e {
			t.Error(c, got, e)
		}
	}
}

func TestFormatAndParse(t *testing.T) {
	s, e := Format(leaps, example())
	if s != text || e != api.OK {
		t.Error(s, e)
	}
	inv, line, e := Parse(leaps, text)
	if !Same(inv, example()) || line != 0 || e != api.OK {
		t.Error(inv, line, e)
	}
	if inv, line, e := Parse(leaps, ""); !Same(inv, api.Inventory{}) || line != 0 || e != api.OK {
		t.Error(inv, line, e)
	}
	if s, e := Format([]int{5}, example()); s != "" || e != api.ErrInvalid {
		t.Error(s, e)
	}
	if _, line, e := Parse([]int{5}, strings.Repeat("x", 70000)); line != 0 || e != api.ErrInvalid {
		t.Error(line, e)
	}
	if _, line, e := Parse(nil, strings.Repeat("\n", api.MaxText+1)); line != 0 || e != api.ErrLimit {
		t.Error(line, e)
	}
	if _, line, e := Parse(nil, strings.Repeat("\n", api.MaxText)); line != 1 || e != api.ErrFormat {
		t.Error(line, e)
	}
	stage := api.Stage{Kind: api.StageFilter, Factor: 1, Taps: slices.Repeat([]int{-1000000}, 128)}
	big := example()
	big.Channels[0].Epochs[0].Response.Stages = slices.Repeat([]api.Stage{stage}, 7)
	for i := range 8 {
		x := big.Channels[0].Epochs[0]
		x.From, x.To = (172801+i)*api.Second, (172802+i)*api.Second
		big.Channels[0].Epochs = append(big.Channels[0].Epochs, x)
	}
	if s, e := Format(leaps, big); s != "" || e != api.ErrLimit {
		t.Error(len(s), e)
	}
}

func TestLimitOfFormat(t *testing.T) {
	inv := example()
	c := &inv.Channels[1]
	c.Epochs[0].To = 1000
	for n := 1; n < 32; n++ {
		x := epoch(n*1000, n*1000+1000)
		for range 7 {
			x.Response.Stages = append(x.Response.Stages, api.Stage{Kind: api.StageFilter, Factor: 1, Taps: slices.Repeat([]int{1}, 128)})
		}
		c.Epochs = append(c.Epochs, x)
	}
	s, e := Format(leaps, inv)
	if e != api.OK {
		t.Fatal(e)
	}
	tap := func(i int) *int { return &c.Epochs[1+i/896].Response.Stages[i/128%7].Taps[i%128] }
	rest := api.MaxText - len(s)
	for i := range rest / 6 {
		*tap(i) = 1000000
	}
	for range rest % 6 {
		*tap(rest / 6) *= 10
	}
	s, e = Format(leaps, inv)
	if back, _, f := Parse(leaps, s); len(s) != api.MaxText || e != api.OK || f != api.OK || !Same(back, inv) {
		t.Error(len(s), e, f)
	}
	*tap(rest/6 + 1) = 10
	if s, e := Format(leaps, inv); s != "" || e != api.ErrLimit {
		t.Error(len(s), e)
	}
}

func TestParseErrors(t *testing.T) {
	lines := strings.SplitAfter(text, "\n")
	lines = lines[:len(lines)-1]
	for _, c := range []struct {
		at   int // the line that is replaced, from 1 on
		line string
		want api.Errno
	}{
		{1, "", api.ErrFormat}, {1, "channel", api.ErrFormat}, {1, "channel ", api.ErrFormat}, {1, "channel GR.FUR.HHZ", api.ErrFormat}, {1, "channel GR.FUR..HHZ ", api.ErrFormat}, {1, "Channel GR.FUR..HHZ", api.ErrFormat},
		{1, "channel GR.FUR..HH", api.ErrInvalid}, {1, "channel ...", api.ErrInvalid}, {1, "channel  GR.FUR..HHZ", api.ErrFormat}, {1, lines[1][:len(lines[1])-1], api.ErrFormat}, {1, "gain 1 1", api.ErrFormat},
		{2, "gain 1 1", api.ErrFormat}, {2, "section 1 1 1 1 1 1", api.ErrFormat}, {2, "filter 1 1 1", api.ErrFormat}, {2, "gain 0 1", api.ErrFormat},
		{2, "epoch 1970-01-01T00:00:01.000000Z 1970-01-01T23:59:60.500000Z 100/1 -5 6", api.ErrFormat}, {2, "epoch 1970-01-01T00:00:01.000000Z 1970-01-01T23:59:60.500000Z 100/1 -5 6 7 8", api.ErrFormat},
		{2, "epoch 1970-01-01T00:00:01.000000 1970-01-01T23:59:60.500000Z 100/1 -5 6 -7", api.ErrFormat}, {2, "epoch 1970-01-01T00:00:01.000000Z 1970-01-01T23:58:60.500000Z 100/1 -5 6 -7", api.ErrFormat},
		{2, "epoch 1970-01-01T00:00:01.000000Z 1970-01-01T23:59:60.500000Z 100 -5 6 -7", api.ErrFormat}, {2, "epoch 1970-01-01T00:00:01.000000Z 1970-01-01T23:59:60.500000Z 100/1/1 -5 6 -7", api.ErrFormat},
		{2, "epoch 1970-01-01T00:00:01.000000Z 1970-01-01T23:59:60.500000Z 0100/1 -5 6 -7", api.ErrFormat}, {2, "epoch 1970-01-01T00:00:01.000000Z 1970-01-01T23:59:60.500000Z 100/1 -0 6 -7", api.ErrFormat},
		{2, "epoch 1970-01-01T00:00:01.000000Z 1970-01-01T23:59:60.500000Z 100/1 +5 6 -7", api.ErrFormat}, {2, "epoch 1970-01-01T00:00:01.000000Z 1970-01-01T23:59:60.500000Z 100/1 1000000000 6 -7", api.ErrFormat},
		{2, "epoch 1970-01-01T00:00:01.000000Z 1970-01-01T23:59:60.500000Z 100/1 -999999999 6 -7", api.ErrInvalid}, {2, "epoch 1970-01-01T00:00:01.000000Z 1970-01-01T23:59:60.500000Z 100/2 5 6 -7", api.ErrInvalid},
		{2, "epoch 1970-01-01T00:00:01.000000Z 1970-01-01T00:00:01.000000Z 100/1 5 6 -7", api.ErrInvalid},
		{3, "gain 2", api.ErrFormat}, {3, "gain 2 3 4", api.ErrFormat}, {3, "gain 2 x", api.ErrFormat}, {3, "gain 2 0", api.ErrInvalid}, {3, "gain -1 1", api.ErrInvalid}, {3, "gain 1 1\r", api.ErrFormat},
		{4, "section 1 2 3 4 5", api.ErrFormat}, {4, "section 1 2 3 0 5 6", api.ErrInvalid}, {4, "section 1 2 3 4 5 6 7", api.ErrFormat}, {4, "section 1 2 3 4 5 9999999", api.ErrInvalid},
		{5, "filter 1 1", api.ErrFormat}, {5, "filter 1 1 ", api.ErrFormat}, {5, "filter 0 1 1", api.ErrInvalid}, {5, "filter 1 1 1 -1", api.ErrInvalid}, {5, "filter 1 1" + strings.Repeat(" 1", 129), api.ErrInvalid}, {5, "word", api.ErrFormat},
	} {
		changed := slices.Clone(lines)
		changed[c.at-1] = c.line + "\n"
		if inv, line, e := Parse(leaps, strings.Join(changed, "")); !Same(inv, api.Inventory{}) || line != c.at || e != c.want {
			t.Error(c, line, e)
		}
	}
	for _, c := range []struct {
		text string
		line int
		want api.Errno
	}{
		{text[:len(text)-1], 8, api.ErrFormat}, {text + "x", 9, api.ErrFormat}, {text + "\n", 9, api.ErrFormat}, {text + text, 0, api.ErrInvalid}, {lines[0], 0, api.ErrInvalid},
		{lines[0] + lines[5] + lines[1], 0, api.ErrInvalid}, {lines[0] + lines[1] + strings.Repeat("gain 1 1\n", 9), 0, api.ErrInvalid}, {lines[0] + lines[1] + strings.Repeat("filter 9 1 1\n", 2), 0, api.ErrInvalid},
		{lines[0] + lines[1] + "channel GR.FUR.00.HHZ\ngain 1 1\n", 4, api.ErrFormat}, {"channel gr.FUR..HHZ", 1, api.ErrFormat},
	} {
		if inv, line, e := Parse(leaps, c.text); !Same(inv, api.Inventory{}) || line != c.line || e != c.want {
			t.Error(c, line, e)
		}
	}
}
