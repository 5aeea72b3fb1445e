package steim

import (
	"math/rand"
	"slices"
	"strings"
	"testing"

	"seismonet/api"
	"seismonet/bits"
)

// build returns a frame with the words 1 to 15.
func build(codes []int, words ...int) string {
	head := 0
	for i, c := range codes {
		head, _ = bits.SetPair(head, i, c)
	}
	s, _ := bits.Put("", head, 4)
	for _, w := range words {
		s, _ = bits.Put(s, w, 4)
	}
	return s + strings.Repeat("\x00", 64-len(s))
}

func repeat(n int, values ...int) []int {
	var l []int
	for i := range n {
		l = append(l, values[i%len(values)])
	}
	return l
}

func TestExamples(t *testing.T) {
	got, e := Encode([]int{5, 6, 4, 4, 4})
	if want := build([]int{0, 0, 0, 1, 3}, 5, 4, 0x0001FE00, 0); got != want || e != api.OK {
		t.Errorf("%x %x %v", got, want, e)
	}
	got, e = Encode([]int{1, 2, 3})
	if want := build([]int{0, 0, 0, 2, 3}, 1, 3, 0x00000001, 1); got != want || e != api.OK {
		t.Errorf("%x %x %v", got, want, e)
	}
	got, e = Encode([]int{-1})
	if want := build([]int{0, 0, 0, 3}, 1<<32-1, 1<<32-1, 0); got != want || e != api.OK {
		t.Errorf("%x %x %v", got, want, e)
	}
}

func TestWordsAndFrames(t *testing.T) {
	for _, c := range []struct {
		samples       []int
		words, frames int
	}{
		{nil, 0, 0}, {[]int{api.MaxSample + 1}, 0, 0}, {[]int{0, -api.MaxSample - 1}, 0, 0}, {[]int{7}, 1, 1},
		{[]int{0, 127, 0, 127}, 1, 1}, {[]int{0, 128, 0, 127}, 2, 1}, {[]int{0, -128, -256, -256}, 1, 1}, {[]int{0, -129, -129, -129}, 2, 1},
		{[]int{0, 32767}, 1, 1}, {[]int{0, 32768}, 2, 1}, {[]int{0, -32768}, 1, 1}, {[]int{0, -32769}, 2, 1},
		{repeat(13, 0, 40000), 13, 1}, {repeat(14, 0, 40000), 14, 2}, {repeat(28, 0, 40000), 28, 2}, {repeat(29, 0, 40000), 29, 3},
		{repeat(118, 0, 40000), 118, 8}, {repeat(119, 0, 40000), 119, 9}, {repeat(4000, 3), 1000, 67},
	} {
		if w, f := Words(c.samples), Frames(c.samples); w != c.words || f != c.frames {
			t.Error(len(c.samples), w, f, c.words, c.frames)
		}
	}
}

func TestEncodeErrors(t *testing.T) {
	for _, c := range []struct {
		samples []int
		want    api.Errno
	}{
		{nil, api.ErrInvalid}, {[]int{api.MaxSample + 1}, api.ErrRange}, {append(repeat(200, 0, 40000), -1<<63), api.ErrRange},
		{repeat(119, 0, 40000), api.ErrLimit}, {repeat(118, 0, 40000), api.OK}, {[]int{api.MaxSample, -api.MaxSample, api.MaxSample}, api.OK},
	} {
		if s, e := Encode(c.samples); e != c.want || e != api.OK && s != "" {
			t.Error(len(c.samples), e, c.want)
		}
	}
}

func TestCodes(t *testing.T) {
	want := []int{0, 0, 0, 1, 2, 3, 0, 1, 2, 3, 0, 1, 2, 3, 1, 2}
	if got, e := Codes(build(want)); !slices.Equal(got, want) || e != api.OK {
		t.Error(got, e)
	}
	for _, n := range []int{0, 63, 65, 128} {
		if got, e := Codes(strings.Repeat("a", n)); got != nil || e != api.ErrFormat {
			t.Error(n, got, e)
		}
	}
}

func TestRoundTrip(t *testing.T) {
	r := rand.New(rand.NewSource(1))
	for n := 1; n <= api.MaxCount; n += 7 {
		for _, size := range []int{1, 100, 30000, api.MaxSample} {
			samples := make([]int, n)
			for i := range samples {
				samples[i] = r.Intn(size+1)*2 - size
			}
			data, e := Encode(samples)
			if Frames(samples) > api.MaxFrames {
				if e != api.ErrLimit {
					t.Error(n, size, e)
				}
				continue
			}
			got, e2 := Decode(data, n)
			if e != api.OK || e2 != api.OK || !slices.Equal(got, samples) || !Canonical(data, n) || len(data) != 64*Frames(samples) {
				t.Error(n, size, e, e2)
			}
		}
	}
}

func TestDecode(t *testing.T) {
	example := build([]int{0, 0, 0, 1, 3}, 5, 4, 0x0001FE00, 0)
	for name, c := range map[string]struct {
		data  string
		count int
		want  []int
		e     api.Errno
	}{
		"example":           {example, 5, []int{5, 6, 4, 4, 4}, api.OK},
		"fewer":             {example, 3, []int{5, 6, 4}, api.OK},
		"count 0":           {"", 0, nil, api.ErrRange},
		"count 421":         {"", 421, nil, api.ErrRange},
		"empty":             {"", 1, nil, api.ErrFormat},
		"length":            {example + "a", 5, nil, api.ErrFormat},
		"frames":            {strings.Repeat(example, 9), 5, nil, api.ErrFormat},
		"pair 0":            {build([]int{1, 0, 0, 1, 3}, 5, 4, 0x0001FE00), 5, nil, api.ErrFormat},
		"pair 1":            {build([]int{0, 1, 0, 1, 3}, 5, 4, 0x0001FE00), 5, nil, api.ErrFormat},
		"pair 2":            {build([]int{0, 0, 1, 1, 3}, 5, 4, 0x0001FE00), 5, nil, api.ErrFormat},
		"pair 0 of another": {example + build([]int{2}), 5, nil, api.ErrFormat},
		"truncated":         {example, 6, nil, api.ErrTruncated},
		"conflict":          {example, 2, nil, api.ErrConflict},
		"first difference":  {build([]int{0, 0, 0, 1}, 5, 5, 0x7F000000), 1, []int{5}, api.OK},
		"empty words":       {build([]int{0, 0, 0, 0, 2, 0, 3}, 5, 7, 99, 0x00090001, 8, 1), 3, []int{5, 6, 7}, api.OK},
		"two frames":        {example + build([]int{0, 1}, 0x01FF0101), 5 + 4, nil, api.ErrConflict},
		"words 1 and 2":     {build([]int{0, 0, 0, 1}, 5, 6, 0x00000000) + build([]int{0, 3, 3}, 3, 1<<32-2), 6, []int{5, 5, 5, 5, 8, 6}, api.OK},
		"first too great":   {build([]int{0, 0, 0, 3}, 1<<30, 1<<30, 0), 1, nil, api.ErrRange},
		"sum too great":     {build([]int{0, 0, 0, 2}, 1<<30-1, 1<<30-1, 1), 2, nil, api.ErrRange},
	} {
		got, e := Decode(c.data, c.count)
		if !slices.Equal(got, c.want) || e != c.e {
			t.Error(name, got, e)
		}
	}
}

func TestCanonical(t *testing.T) {
	example := build([]int{0, 0, 0, 1, 3}, 5, 4, 0x0001FE00, 0)
	if !Canonical(example, 5) {
		t.Error("example")
	}
	for name, data := range map[string]string{
		"first difference": build([]int{0, 0, 0, 1, 3}, 5, 4, 0x0101FE00, 0),
		"unused word":      build([]int{0, 0, 0, 1, 3}, 5, 4, 0x0001FE00, 0, 1),
		"code":             build([]int{0, 0, 0, 1, 3, 3}, 5, 4, 0x0001FE00, 0, 0),
		"frame":            example + build(nil),
		"wide":             build([]int{0, 0, 0, 2, 2, 3}, 5, 4, 0x00000001, 0xFFFE0000, 0),
		"error":            example[1:],
	} {
		if Canonical(data, 5) {
			t.Error(name)
		}
	}
	if Canonical(example, 4) || Canonical(example, 0) {
		t.Error("count")
	}
}

func TestMostSamples(t *testing.T) {
	for n, want := range map[int]api.Errno{api.MaxCount: api.OK, api.MaxCount + 1: api.ErrRange} {
		data, e := Encode(make([]int, n))
		if e != api.OK {
			t.Fatal(e)
		}
		if got, e := Decode(data, n); e != want || e == api.OK && len(got) != n {
			t.Error(n, len(got), e)
		}
	}
	long := repeat(118, 0, 40000)
	data, _ := Encode(long)
	if got, e := Decode(data, len(long)); len(data) != 64*api.MaxFrames || !slices.Equal(got, long) || e != api.OK {
		t.Error(len(data), e)
	}
}
