package packet

import (
	"reflect"
	"slices"
	"strings"
	"testing"

	"seismonet/api"
	"seismonet/crc"
)

func example() api.Packet {
	return api.Packet{
		Source: api.SourceID{Network: "GR", Station: "FUR", Channel: "HHZ"},
		Run:    2, Seq: 70000, Start: 1 << 50, Rate: api.Rate{Num: 100, Den: 3},
		Quality: api.Quality{Clock: api.ClockFree, Error: 5}, Samples: []int{5, 6, 4, 4, 4},
	}
}

func changed(f func(p *api.Packet)) api.Packet {
	p := example()
	f(&p)
	return p
}

// again sets the checksum anew behind a change of the bytes.
func again(s string, f func(b []byte)) string {
	b := []byte(s[:len(s)-4])
	f(b)
	return crc.Append(string(b))
}

func valid() []api.Packet {
	long := make([]int, api.MaxCount)
	return []api.Packet{
		example(),
		changed(func(p *api.Packet) { p.Source.Network, p.Source.Station = "G", "F" }),
		changed(func(p *api.Packet) { p.Source.Station, p.Source.Location = "FURST", "00" }),
		changed(func(p *api.Packet) { p.Run, p.Seq, p.Start = api.MaxRun, api.MaxSeq, api.MaxTime }),
		changed(func(p *api.Packet) { p.Run, p.Seq, p.Start = 0, 0, 0 }),
		changed(func(p *api.Packet) { p.Quality = api.Quality{Clock: api.ClockUnknown, Error: api.MaxError} }),
		changed(func(p *api.Packet) { p.Quality = api.Quality{} }),
		changed(func(p *api.Packet) { p.Rate = api.Rate{Num: 4096, Den: 4095} }),
		changed(func(p *api.Packet) { p.Samples = long }),
		changed(func(p *api.Packet) { p.Samples = []int{-api.MaxSample, api.MaxSample} }),
	}
}

func TestEncodeAndDecode(t *testing.T) {
	for _, p := range valid() {
		s, e := Encode(p)
		if !Valid(p) || e != api.OK {
			t.Error(p, e)
		}
		if n, e := Length(s); n != len(s) || e != api.OK {
			t.Error(n, len(s), e)
		}
		if back, e := Decode(s); !reflect.DeepEqual(back, p) || e != api.OK {
			t.Error(p, back, e)
		}
		if _, e := Decode(s + "a"); e != api.ErrFormat {
			t.Error(e)
		}
		for _, n := range []int{0, 30, 31, len(s) - 1} {
			if back, e := Decode(s[:n]); !reflect.DeepEqual(back, api.Packet{}) || e != api.ErrTruncated {
				t.Error(n, back, e)
			}
		}
	}
}

func TestBytes(t *testing.T) {
	s, _ := Encode(example())
	want := "SN\x01\x01\x00\x02\x00\x01\x11\x70\x04\x00\x00\x00\x00\x00\x00\x00\x64\x00\x03\x00\x00\x00\x00\x00\x05\x00\x05\x0b\x01GR.FUR..HHZ\x01\xC0\x00\x00"
	if !strings.HasPrefix(s, want) {
		t.Errorf("%x\n%x", s, want)
	}
	if s, _ := Encode(changed(func(p *api.Packet) { p.Samples = []int{7} })); len(s) != 110 {
		t.Error(len(s))
	}
}

func TestInvalid(t *testing.T) {
	for i, p := range []api.Packet{
		{},
		changed(func(p *api.Packet) { p.Source.Channel = "HH" }),
		changed(func(p *api.Packet) { p.Rate.Num = 0 }),
		changed(func(p *api.Packet) { p.Rate = api.Rate{Num: 2, Den: 2} }),
		changed(func(p *api.Packet) { p.Run = -1 }),
		changed(func(p *api.Packet) { p.Run = api.MaxRun + 1 }),
		changed(func(p *api.Packet) { p.Seq = -1 }),
		changed(func(p *api.Packet) { p.Seq = api.MaxSeq + 1 }),
		changed(func(p *api.Packet) { p.Start = -1 }),
		changed(func(p *api.Packet) { p.Start = api.MaxTime + 1 }),
		changed(func(p *api.Packet) { p.Quality.Clock = 3 }),
		changed(func(p *api.Packet) { p.Quality.Clock = -1 }),
		changed(func(p *api.Packet) { p.Quality.Error = -1 }),
		changed(func(p *api.Packet) { p.Quality.Error = api.MaxError + 1 }),
		changed(func(p *api.Packet) { p.Samples = nil }),
		changed(func(p *api.Packet) { p.Samples = make([]int, api.MaxCount+1) }),
		changed(func(p *api.Packet) { p.Samples = []int{api.MaxSample + 1} }),
		changed(func(p *api.Packet) { p.Samples = slices.Repeat([]int{0, 40000}, 60) }),
	} {
		if s, e := Encode(p); Valid(p) || s != "" || e != api.ErrInvalid {
			t.Error(i, s, e)
		}
		if r, e := Record(p); !reflect.DeepEqual(r, api.Record{}) || e != api.ErrInvalid {
			t.Error(i, r, e)
		}
	}
}

func TestLengthErrors(t *testing.T) {
	s, _ := Encode(example())
	set := func(i int, c byte) string { return s[:i] + string([]byte{c}) + s[i+1:] }
	for _, c := range []struct {
		s    string
		want api.Errno
	}{
		{"", api.ErrTruncated}, {s[:30], api.ErrTruncated}, {s[:31], api.OK}, {set(0, 'T'), api.ErrFormat}, {set(1, 'T'), api.ErrFormat},
		{set(2, 2), api.ErrFormat}, {set(29, 7), api.ErrFormat}, {set(29, 16), api.ErrFormat}, {set(29, 8), api.OK}, {set(29, 15), api.OK},
		{set(30, 0), api.ErrFormat}, {set(30, 9), api.ErrFormat}, {set(30, 8), api.OK},
	} {
		if n, e := Length(c.s); e != c.want || e != api.OK && n != 0 {
			t.Errorf("%x %v %v", c.s, n, e)
		}
	}
	if n, _ := Length(set(30, 8)); n != 31+11+8*64+4 {
		t.Error(n)
	}
}

func TestDecodeErrors(t *testing.T) {
	s, _ := Encode(example())
	if _, e := Decode(s[:len(s)-1] + string([]byte{s[len(s)-1] ^ 1})); e != api.ErrChecksum {
		t.Error(e)
	}
	for name, f := range map[string]func(b []byte){
		"clock":    func(b []byte) { b[3] = 3 },
		"start":    func(b []byte) { b[10] = 255 },
		"rate":     func(b []byte) { b[18] = 6 },
		"error":    func(b []byte) { b[21] = 255 },
		"count":    func(b []byte) { b[28] = 4 },
		"no count": func(b []byte) { b[28] = 0 },
		"source":   func(b []byte) { b[31] = 'g' },
		"frame":    func(b []byte) { b[len(b)-1] = 1 },
		"seq":      func(b []byte) { b[6] = 255 },
	} {
		if p, e := Decode(again(s, f)); !reflect.DeepEqual(p, api.Packet{}) || e != api.ErrFormat {
			t.Error(name, p, e)
		}
	}
	for at := range 8*len(s) - 32 {
		burst, _ := crc.Flip(s, at, 32, 1<<31|1<<(at%31)|1)
		if _, e := Decode(burst); e == api.OK {
			t.Fatal(at)
		}
	}
}

func TestSplit(t *testing.T) {
	var all string
	var want []string
	for _, p := range valid() {
		s, _ := Encode(p)
		want = append(want, s)
		all += s
	}
	for _, c := range []struct {
		rest string
		e    api.Errno
	}{{"", api.OK}, {"XYZ", api.OK}, {want[0][:31], api.OK}, {want[0][:len(want[0])-1], api.OK}, {strings.Repeat("x", 31), api.ErrFormat}} {
		l, rest, e := Split(all + c.rest)
		if !slices.Equal(l, want) || rest != c.rest || e != c.e {
			t.Error(len(l), rest, e)
		}
	}
}

func TestRecord(t *testing.T) {
	p := example()
	r, e := Record(p)
	want := api.Record{Source: p.Source, Start: p.Start, Rate: p.Rate, Error: 5, Run: 2, Seq: 70000, Samples: []int{5, 6, 4, 4, 4}}
	if !reflect.DeepEqual(r, want) || e != api.OK {
		t.Error(r, e)
	}
	r.Samples[0] = 99
	if p.Samples[0] != 5 {
		t.Error("the record shares the samples of the packet")
	}
	if r, _ := Record(changed(func(p *api.Packet) { p.Quality.Clock = api.ClockUnknown })); r.Error != api.MaxError {
		t.Error(r)
	}
}
