package sender

import (
	"reflect"
	"slices"
	"strconv"
	"strings"
	"testing"

	"seismonet/api"
)

var longest = strings.Repeat("a", api.MaxMessage-32)

func invalid() []api.Sender {
	return []api.Sender{
		{}, {Size: -1}, {Size: api.MaxBuffer + 1}, {Size: 1, First: -1}, {Size: 1, First: api.MaxSeq + 2}, {Size: 1, Data: []string{"", ""}},
		{Size: 1, Data: []string{longest + "a"}}, {Size: 2, First: api.MaxSeq, Data: []string{"", ""}}, {Size: 1, First: 1<<63 - 1, Data: []string{""}},
	}
}

func TestNewAndValid(t *testing.T) {
	for _, size := range []int{1, 2, api.MaxBuffer} {
		if s, e := New(size); !reflect.DeepEqual(s, api.Sender{Size: size}) || e != api.OK || !Valid(s) {
			t.Error(s, e)
		}
	}
	for _, size := range []int{0, -1, api.MaxBuffer + 1} {
		if s, e := New(size); !reflect.DeepEqual(s, api.Sender{}) || e != api.ErrRange {
			t.Error(s, e)
		}
	}
	for _, s := range []api.Sender{{Size: 1, First: api.MaxSeq, Data: []string{longest}}, {Size: 1, First: api.MaxSeq + 1}} {
		if !Valid(s) {
			t.Error(s.First)
		}
	}
	for i, s := range invalid() {
		if Valid(s) || Next(s) != s.First+len(s.Data) {
			t.Error(i)
		}
		if got, n, e := Push(s, longest+"aa"); !reflect.DeepEqual(got, api.Sender{}) || n != 0 || e != api.ErrInvalid {
			t.Error(i, n, e)
		}
		if m, ok := Get(s, s.First); m != "" || ok {
			t.Error(i)
		}
		if l, e := Answer(s, nil, -1); l != nil || e != api.ErrInvalid {
			t.Error(i, e)
		}
	}
}

func TestPush(t *testing.T) {
	s, _ := New(2)
	for i := range 3 {
		next, n, e := Push(s, strconv.Itoa(i))
		if n != i || e != api.OK || Next(next) != i+1 {
			t.Error(n, e)
		}
		s = next
	}
	if !reflect.DeepEqual(s, api.Sender{Size: 2, First: 1, Data: []string{"1", "2"}}) {
		t.Error(s)
	}
	for seq, want := range map[int]string{0: "", 1: "1", 2: "2", 3: "", -1: ""} {
		if m, ok := Get(s, seq); m != want || ok != (want != "") {
			t.Error(seq, m, ok)
		}
	}
	if _, _, e := Push(s, longest+"a"); e != api.ErrLimit {
		t.Error(e)
	}
	if _, _, e := Push(s, longest); e != api.OK {
		t.Error(e)
	}
	if _, n, e := Push(api.Sender{Size: 1, First: api.MaxSeq}, ""); n != api.MaxSeq || e != api.OK {
		t.Error(n, e)
	}
	if _, _, e := Push(api.Sender{Size: 1, First: api.MaxSeq, Data: []string{""}}, ""); e != api.ErrLimit {
		t.Error(e)
	}
}

func TestPushSharesNothing(t *testing.T) {
	s := api.Sender{Size: 9, Data: make([]string, 1, 9)}
	a, _, _ := Push(s, "a")
	b, _, _ := Push(s, "b")
	a.Data[0] = "changed"
	if a.Data[1] != "a" || b.Data[1] != "b" || b.Data[0] != "" || s.Data[0] != "" {
		t.Error(s, a, b)
	}
}

func TestAnswer(t *testing.T) {
	s := api.Sender{Size: 9, First: 5, Data: make([]string, 6)}
	for _, c := range []struct {
		l    []api.Span
		most int
		want []int
		e    api.Errno
	}{
		{nil, 9, nil, api.OK}, {[]api.Span{{From: 0, To: 99}}, 256, []int{5, 6, 7, 8, 9, 10}, api.OK}, {[]api.Span{{From: 0, To: 99}}, 2, []int{5, 6}, api.OK},
		{[]api.Span{{From: 8, To: 20}, {From: 8, To: 9}, {From: 6, To: 7}, {From: 9, To: 5}}, 3, []int{6, 8, 9}, api.OK}, {[]api.Span{{From: 0, To: 5}, {From: 11, To: 20}}, 9, nil, api.OK},
		{[]api.Span{{From: 0, To: 99}}, 0, nil, api.OK}, {nil, -1, nil, api.ErrRange}, {nil, 257, nil, api.ErrRange},
	} {
		if got, e := Answer(s, c.l, c.most); !slices.Equal(got, c.want) || e != c.e {
			t.Error(c, got, e)
		}
	}
}
