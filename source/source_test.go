package source

import (
	"slices"
	"testing"

	"seismonet/api"
)

func id(network, station, location, channel string) api.SourceID {
	return api.SourceID{Network: network, Station: station, Location: location, Channel: channel}
}

var (
	good = []api.SourceID{id("G", "A", "", "HHZ"), id("GR", "FUR", "", "HHZ"), id("GR", "FUR", "00", "HHZ"), id("9Z", "A1B2C", "Z9", "000")}
	bad  = []api.SourceID{{}, id("", "A", "", "HHZ"), id("GRX", "A", "", "HHZ"), id("GR", "", "", "HHZ"), id("GR", "ABCDEF", "", "HHZ"), id("GR", "A", "0", "HHZ"), id("GR", "A", "000", "HHZ"), id("GR", "A", "", "HH"), id("GR", "A", "", "HHZZ"), id("gR", "A", "", "HHZ"), id("GR", "A?", "", "HHZ"), id("GR", "A", "..", "HHZ"), id("GR", "A", "", "HH\xff")}
)

func TestValidAndTexts(t *testing.T) {
	for _, s := range good {
		text, e := Format(s)
		if !Valid(s) || e != api.OK {
			t.Error(s, text, e)
		}
		if back, e := Parse(text); back != s || e != api.OK {
			t.Error(s, text, back, e)
		}
	}
	if text, _ := Format(good[1]); text != "GR.FUR..HHZ" {
		t.Error(text)
	}
	for _, s := range bad {
		if text, e := Format(s); Valid(s) || text != "" || e != api.ErrInvalid {
			t.Error(s, text, e)
		}
	}
	for _, text := range []string{"", "...", "GR.FUR.HHZ", "GR.FUR..HHZ.", "GR.FUR...HHZ", " GR.FUR..HHZ", "GR.FUR..HHz", "GR.FUR.0.HHZ", "GR.FUR..*"} {
		if s, e := Parse(text); s != (api.SourceID{}) || e != api.ErrFormat {
			t.Error(text, s, e)
		}
	}
}

func TestCompareAndSort(t *testing.T) {
	ordered := []api.SourceID{id("", "Z", "", ""), id("A", "", "", ""), id("A", "B", "", "ZZZ"), id("A", "B", "00", "AAA"), id("A", "B", "00", "AAB"), id("A", "C", "", "AAA"), id("AA", "A", "", "AAA"), id("\xff", "", "", "")}
	for i, a := range ordered {
		for j, b := range ordered {
			want := 0
			if i < j {
				want = -1
			} else if i > j {
				want = 1
			}
			if got := Compare(a, b); got != want {
				t.Error(a, b, got, want)
			}
		}
	}
	mixed := []api.SourceID{ordered[5], ordered[2], ordered[7], ordered[2], ordered[0], ordered[5]}
	before := slices.Clone(mixed)
	if got := Sort(mixed); !slices.Equal(got, []api.SourceID{ordered[0], ordered[2], ordered[5], ordered[7]}) {
		t.Error(got)
	}
	if !slices.Equal(mixed, before) {
		t.Error("Sort changed its argument")
	}
	if len(Sort(nil)) != 0 {
		t.Error("nothing")
	}
	if !SameStation(good[1], good[2]) || SameStation(good[0], good[1]) || SameStation(id("A", "B", "", ""), id("B", "B", "", "")) || SameStation(id("A", "B", "", ""), id("A", "C", "", "")) {
		t.Error("SameStation")
	}
}

func TestMatch(t *testing.T) {
	s := id("GR", "FUR", "", "HHZ")
	for _, c := range []struct {
		pattern string
		want    bool
	}{
		{"*.*.*.*", true}, {"GR.FUR..HHZ", true}, {"GR.*.*.HH?", true}, {"GR.F*.00.*", false}, {"??.???..???", true},
		{"?.FUR..HHZ", false}, {"???.FUR..HHZ", false}, {"GR.FUR.?.HHZ", false}, {"GR.*U*..HHZ", true}, {"GR.*R..*Z", true},
		{"GR.*U..HHZ", false}, {"GR.********..HHZ", true}, {"GR.****?***..HHZ", true}, {"GR.F?*R*..HHZ", true}, {"GR.F??*R..HHZ", false}, {"...", false},
		{"*G*R*.F*..*H*H*", true}, {"*G*R*.F*..*H*H*H*", false}, {"GR.FUR.**.H*H*Z*", true},
	} {
		if got, e := Match(c.pattern, s); got != c.want || e != api.OK {
			t.Error(c, got, e)
		}
	}
	for _, pattern := range []string{"", "*", "*.*.*", "*.*.*.*.*", "*.*.*.*.", "g.*.*.*", "GR.FUR..HH-", "*.*********.*.*", "*.*.*.[A]"} {
		if got, e := Match(pattern, s); got || e != api.ErrFormat {
			t.Error(pattern, got, e)
		}
		if l, e := Select(pattern, good); l != nil || e != api.ErrFormat {
			t.Error(pattern, l, e)
		}
	}
	if got, e := Match("*.*.*.*", bad[1]); got || e != api.ErrInvalid {
		t.Error(got, e)
	}
	if _, e := Match("*", bad[1]); e != api.ErrFormat {
		t.Error(e)
	}
	for _, s := range good {
		text, _ := Format(s)
		for _, other := range good {
			if got, e := Match(text, other); got != (s == other) || e != api.OK {
				t.Error(text, other, got, e)
			}
		}
	}
}

func TestSelect(t *testing.T) {
	l := []api.SourceID{good[2], bad[0], good[1], good[0], bad[3], good[2]}
	got, e := Select("GR.*.*.*", l)
	if e != api.OK || !slices.Equal(got, []api.SourceID{good[2], good[1], good[2]}) {
		t.Error(got, e)
	}
	if got, e := Select("XX.*.*.*", l); len(got) != 0 || e != api.OK {
		t.Error(got, e)
	}
}
