package session

import (
	"math/rand"
	"reflect"
	"slices"
	"strconv"
	"strings"
	"testing"

	"seismonet/api"
	"seismonet/crc"
)

func must(t *testing.T, s api.Session, e api.Errno) api.Session {
	t.Helper()
	if e != api.OK || !Valid(s) {
		t.Fatal(e, s)
	}
	return s
}

func push(t *testing.T, s api.Session, data string, f api.Fault) api.Session {
	t.Helper()
	s, _, e := Push(s, data, f)
	return must(t, s, e)
}

func start(t *testing.T, size, interval int) api.Session {
	t.Helper()
	s, e := New(size, interval)
	return must(t, s, e)
}

func TestNew(t *testing.T) {
	s := start(t, 4, 10)
	if s.Now != 0 || s.Known != 0 || s.Interval != 10 || s.Sender.Size != 4 || len(s.Delivered) != 0 {
		t.Error(s)
	}
	for _, c := range [][2]int{{0, 1}, {257, 1}, {1, 0}, {1, 4097}, {-1, -1}} {
		if s, e := New(c[0], c[1]); !reflect.DeepEqual(s, api.Session{}) || e != api.ErrRange {
			t.Error(c, e)
		}
	}
	start(t, 256, 4096)
}

func TestValid(t *testing.T) {
	s := start(t, 4, 3)
	s = push(t, s, "a", api.Fault{})
	s = push(t, s, "b", api.Fault{})
	s, _ = Run(s, 2)
	for i, f := range []func(s *api.Session){
		func(s *api.Session) { s.Now++ }, func(s *api.Session) { s.Now, s.Down.Now, s.Up.Now = -1, -1, -1 },
		func(s *api.Session) { s.Interval = 0 }, func(s *api.Session) { s.Interval = 4097 },
		func(s *api.Session) { s.Known = -1 }, func(s *api.Session) { s.Known = 3 },
		func(s *api.Session) { s.Sender.Size = 0 }, func(s *api.Session) { s.Receiver.Got = []api.Span{{From: 3}} },
		func(s *api.Session) { s.Down.Now++ }, func(s *api.Session) { s.Up.Now++ }, func(s *api.Session) { s.Up.Order = -1 },
		func(s *api.Session) { s.Delivered = []api.Arrival{{Seq: 0}, {Seq: 0}} }, func(s *api.Session) { s.Delivered = []api.Arrival{{Seq: 2}} },
		func(s *api.Session) { s.Delivered = []api.Arrival{{Seq: -1}} }, func(s *api.Session) { s.Delivered = []api.Arrival{{Seq: 0, At: 3}} },
		func(s *api.Session) { s.Delivered = []api.Arrival{{Seq: 0, At: 2}, {Seq: 1, At: 1}} }, func(s *api.Session) { s.Delivered = []api.Arrival{{Seq: 0, At: -1}} },
		func(s *api.Session) { s.Delivered = make([]api.Arrival, 4097) },
	} {
		bad := s
		f(&bad)
		if Valid(bad) || Quiet(bad) {
			t.Error(i)
		}
		if got, e := Tick(bad, nil, nil); !reflect.DeepEqual(got, api.Session{}) || e != api.ErrInvalid {
			t.Error(i, e)
		}
		if got, e := Run(bad, 1); !reflect.DeepEqual(got, api.Session{}) || e != api.ErrInvalid {
			t.Error(i, e)
		}
		if got, n, e := Push(bad, "", api.Fault{}); !reflect.DeepEqual(got, api.Session{}) || n != 0 || e != api.ErrInvalid {
			t.Error(i, e)
		}
	}
}

func TestData(t *testing.T) {
	m, e := Data(258, 3, "xy")
	if m != crc.Append("D\x00\x00\x01\x02\x00\x00\x00\x03xy") || e != api.OK {
		t.Errorf("%x %v", m, e)
	}
	for _, data := range []string{"", "a", strings.Repeat("a", api.MaxMessage-13)} {
		m, e := Data(api.MaxSeq, api.MaxSeq+1, data)
		if e != api.OK {
			t.Error(e)
		}
		if seq, first, back, e := ParseData(m); seq != api.MaxSeq || first != api.MaxSeq+1 || back != data || e != api.OK {
			t.Error(seq, first, e)
		}
	}
	for _, c := range []struct {
		seq, first int
		data       string
		want       api.Errno
	}{{-1, 0, "", api.ErrRange}, {api.MaxSeq + 1, 0, "", api.ErrRange}, {0, -1, "", api.ErrRange}, {0, api.MaxSeq + 2, "", api.ErrRange}, {0, 0, strings.Repeat("a", api.MaxMessage-12), api.ErrLimit}} {
		if m, e := Data(c.seq, c.first, c.data); m != "" || e != c.want {
			t.Error(c.seq, e)
		}
	}
	for _, c := range []struct {
		m    string
		want api.Errno
	}{
		{"", api.ErrTruncated}, {m[:12], api.ErrTruncated}, {m[1:] + "a", api.ErrChecksum}, {crc.Append("d12345678"), api.ErrFormat},
		{crc.Append("D\x40\x00\x00\x01\x00\x00\x00\x00"), api.ErrFormat}, {crc.Append("D\x40\x00\x00\x00\x40\x00\x00\x02"), api.ErrFormat},
	} {
		if seq, first, data, e := ParseData(c.m); seq != 0 || first != 0 || data != "" || e != c.want {
			t.Error(c, e)
		}
	}
}

func TestStatus(t *testing.T) {
	s := api.Sender{Size: 3, First: 7, Data: []string{"", "", ""}}
	m, e := Status(s)
	if m != crc.Append("S\x00\x00\x00\x07\x00\x00\x00\x0a") || e != api.OK {
		t.Errorf("%x %v", m, e)
	}
	if first, next, e := ParseStatus(m); first != 7 || next != 10 || e != api.OK {
		t.Error(first, next, e)
	}
	empty, _ := Status(api.Sender{Size: 1, First: 7})
	if first, next, e := ParseStatus(empty); first != 7 || next != 7 || e != api.OK {
		t.Error(first, next, e)
	}
	if m, e := Status(api.Sender{}); m != "" || e != api.ErrInvalid {
		t.Error(m, e)
	}
	for _, c := range []struct {
		m    string
		want api.Errno
	}{
		{m[:12], api.ErrTruncated}, {m[1:] + "a", api.ErrChecksum}, {crc.Append("D\x00\x00\x00\x07\x00\x00\x00\x0a"), api.ErrFormat}, {crc.Append("S\x00\x00\x00\x07\x00\x00\x00\x0aa"), api.ErrFormat},
		{crc.Append("S\x00\x00\x00\x07\x00\x00\x00\x06"), api.ErrFormat}, {crc.Append("S\x00\x00\x00\x07\x40\x00\x00\x02"), api.ErrFormat}, {crc.Append("S\x00\x00\x00\x07\x40\x00\x00\x01"), api.OK},
	} {
		if first, _, e := ParseStatus(c.m); e != c.want || e != api.OK && first != 0 {
			t.Error(c, first, e)
		}
	}
}

func TestRequests(t *testing.T) {
	l := []api.Span{{From: 1, To: 3}, {From: 5, To: 258}}
	m, e := Requests(258, l)
	if m != crc.Append("R\x00\x00\x00\x01\x00\x00\x00\x03\x00\x00\x00\x05\x00\x00\x01\x02") || e != api.OK {
		t.Errorf("%x %v", m, e)
	}
	if got, e := ParseRequests(m); !slices.Equal(got, l) || e != api.OK {
		t.Error(got, e)
	}
	if m, e := Requests(0, nil); m != crc.Append("R") || e != api.OK {
		t.Error(m, e)
	}
	if got, e := ParseRequests(crc.Append("R")); len(got) != 0 || e != api.OK {
		t.Error(got, e)
	}
	var many []api.Span
	for i := range 17 {
		many = append(many, api.Span{From: 2 * i, To: 2*i + 1})
	}
	for _, c := range []struct {
		next int
		l    []api.Span
		want api.Errno
	}{
		{257, l, api.ErrInvalid}, {-1, nil, api.ErrInvalid}, {api.MaxSeq + 2, nil, api.ErrInvalid}, {9, []api.Span{{From: 3, To: 3}}, api.ErrInvalid},
		{9, []api.Span{{From: -1, To: 3}}, api.ErrInvalid}, {99, many, api.ErrLimit}, {99, many[:16], api.OK}, {api.MaxSeq + 1, []api.Span{{From: 0, To: api.MaxSeq + 1}}, api.OK},
	} {
		m, e := Requests(c.next, c.l)
		if e != c.want || e != api.OK && m != "" {
			t.Error(c, e)
		}
		if got, f := ParseRequests(m); e == api.OK && (f != api.OK || !slices.Equal(got, c.l)) {
			t.Error(c, got, f)
		}
	}
	long := "R"
	for i := range 17 {
		long += "\x00\x00\x00" + string([]byte{byte(2 * i)}) + "\x00\x00\x00" + string([]byte{byte(2*i + 1)})
	}
	for _, c := range []struct {
		m    string
		want api.Errno
	}{
		{"abcd", api.ErrTruncated}, {"abcde", api.ErrChecksum}, {crc.Append("S"), api.ErrFormat}, {crc.Append("R1234"), api.ErrFormat}, {crc.Append(long), api.ErrFormat},
		{crc.Append(long[:1+128]), api.OK}, {crc.Append("R\x00\x00\x00\x01\x00\x00\x00\x01"), api.ErrFormat}, {crc.Append("R\x00\x00\x00\x01\x40\x00\x00\x02"), api.ErrFormat},
	} {
		if got, e := ParseRequests(c.m); e != c.want || e != api.OK && got != nil {
			t.Error(c, got, e)
		}
	}
}

func TestExample(t *testing.T) {
	s := start(t, 8, 5)
	s = push(t, s, "a", api.Fault{})
	s = push(t, s, "b", api.Fault{Drop: true})
	s = push(t, s, "c", api.Fault{Drop: true})
	var at []int
	for range 20 {
		var e api.Errno
		s, e = Tick(s, nil, nil)
		must(t, s, e)
		for len(at) < len(s.Delivered) {
			at = append(at, s.Now)
		}
		if s.Now == 1 && s.Known != 1 || s.Now == 15 && len(s.Up.Items) != 0 {
			t.Error(s.Now, s.Known, s.Up)
		}
		if Quiet(s) != (len(at) == 3) {
			t.Error(s.Now, at)
		}
	}
	want := []api.Arrival{{Seq: 0, At: 1, Data: "a"}, {Seq: 1, At: 12, Data: "b"}, {Seq: 2, At: 12, Data: "c"}}
	if !slices.Equal(s.Delivered, want) || !slices.Equal(at, []int{1, 12, 12}) || s.Known != 3 {
		t.Error(s.Delivered, at, s.Known)
	}
}

func TestFaultsOfATick(t *testing.T) {
	s := start(t, 8, 1)
	s = push(t, s, "a", api.Fault{Drop: true})
	s = push(t, s, "b", api.Fault{})
	step := func(down, up []api.Fault) {
		var e api.Errno
		s, e = Tick(s, down, up)
		must(t, s, e)
	}
	step([]api.Fault{{Drop: true}}, []api.Fault{{Delay: 1}})
	if len(s.Down.Items) != 0 || len(s.Up.Items) != 1 || s.Up.Items[0].At != 3 {
		t.Error(s.Down, s.Up)
	}
	step(nil, []api.Fault{{Drop: true}})
	step([]api.Fault{{Delay: 4}, {Drop: true}}, nil)
	if n := len(s.Down.Items); n != 1 || s.Down.Items[0].At != 8 || s.Down.Items[0].Data[0] != 'D' {
		t.Error(s.Down)
	}
	if got, e := Tick(s, []api.Fault{{Delay: -1}}, nil); !reflect.DeepEqual(got, api.Session{}) || e != api.ErrInvalid {
		t.Error(e)
	}
	if _, e := Tick(s, nil, []api.Fault{{}, {Copies: 9}}); e != api.ErrInvalid {
		t.Error(e)
	}
	if _, _, e := Push(s, strings.Repeat("a", 4096), api.Fault{Copies: 9}); e != api.ErrInvalid {
		t.Error(e)
	}
	if _, _, e := Push(s, strings.Repeat("a", 4096), api.Fault{}); e != api.ErrLimit {
		t.Error(e)
	}
}

func TestLostMessages(t *testing.T) {
	s := start(t, 2, 3)
	for i := range 5 {
		s = push(t, s, strconv.Itoa(i), api.Fault{Drop: i < 4})
	}
	s, e := Run(s, 20)
	must(t, s, e)
	if !Quiet(s) || !slices.Equal(s.Receiver.Lost, []api.Span{{From: 0, To: 3}}) || len(s.Delivered) != 2 {
		t.Error(s)
	}
}

func TestForeignMessages(t *testing.T) {
	s := start(t, 2, 100)
	data, _ := Data(7, 0, "x")
	bad, _ := Data(3, 9, "y")
	damaged, _ := crc.Flip(bad, 20, 1, 1)
	for i, m := range []string{data, "nothing", damaged, crc.Append("Xabc")} {
		s.Down.Items = append(s.Down.Items, api.Transit{At: 1, Order: i, Data: m})
		s.Up.Items = append(s.Up.Items, api.Transit{At: 1, Order: i, Data: m})
	}
	s.Down.Order, s.Up.Order = 4, 4
	s, e := Tick(must(t, s, api.OK), nil, nil)
	must(t, s, e)
	if len(s.Delivered) != 1 || s.Known != 0 || len(s.Receiver.Lost) != 0 || len(s.Down.Items) != 0 {
		t.Error(s)
	}
}

func TestFullWire(t *testing.T) {
	s := start(t, 8, 1)
	for i := range api.MaxWire {
		s.Down.Items = append(s.Down.Items, api.Transit{At: 9, Order: i})
	}
	s.Down.Order = api.MaxWire
	if _, _, e := Push(s, "a", api.Fault{}); e != api.ErrLimit {
		t.Error(e)
	}
	s, e := Tick(s, nil, nil)
	must(t, s, e)
	if len(s.Down.Items) != api.MaxWire || s.Down.Order != api.MaxWire {
		t.Error("a status that cannot be sent is dropped")
	}
}

func TestManyArrivals(t *testing.T) {
	s := start(t, 1, 4096)
	for range maxDelivered + 3 {
		s = push(t, s, "", api.Fault{})
		s, _ = Tick(s, nil, nil)
	}
	if must(t, s, api.OK); len(s.Delivered) != maxDelivered || !Quiet(s) {
		t.Error(len(s.Delivered))
	}
}

func TestRandomFaults(t *testing.T) {
	r := rand.New(rand.NewSource(6))
	faults := func() []api.Fault {
		var l []api.Fault
		for range 20 {
			l = append(l, api.Fault{Drop: r.Intn(3) == 0, Delay: r.Intn(5), Copies: r.Intn(3)})
		}
		return l
	}
	for range 20 {
		s := start(t, 16, 1+r.Intn(5))
		sent := map[int]string{}
		for i := range 60 {
			if r.Intn(2) == 0 {
				data := strconv.Itoa(i)
				var seq int
				var e api.Errno
				s, seq, e = Push(s, data, faults()[0])
				must(t, s, e)
				sent[seq] = data
			}
			var e api.Errno
			s, e = Tick(s, faults(), faults())
			must(t, s, e)
		}
		kept := s.Sender.First
		before := clone(s)
		end, e := Run(s, 200)
		must(t, end, e)
		if !Quiet(end) || !reflect.DeepEqual(before, s) {
			t.Error(end)
		}
		seen := map[int]bool{}
		for _, a := range end.Delivered {
			if seen[a.Seq] || sent[a.Seq] != a.Data {
				t.Error(a)
			}
			seen[a.Seq] = true
		}
		for seq := range sent {
			if seq >= kept && !seen[seq] {
				t.Error("not delivered", seq)
			}
		}
		checkRun(t, s, end)
	}
}

// checkRun compares Run with as many ticks.
func checkRun(t *testing.T, s, end api.Session) {
	t.Helper()
	for range 200 {
		s, _ = Tick(s, nil, nil)
	}
	if !reflect.DeepEqual(s, end) {
		t.Error("Run differs from ticks")
	}
}

func TestRunErrors(t *testing.T) {
	s := start(t, 1, 1)
	for _, n := range []int{-1, 100001} {
		if _, e := Run(api.Session{}, n); e != api.ErrRange {
			t.Error(n, e)
		}
	}
	s.Now, s.Down.Now, s.Up.Now = api.MaxTick-1, api.MaxTick-1, api.MaxTick-1
	if _, e := Run(s, 2); e != api.ErrLimit {
		t.Error(e)
	}
	s, e := Run(s, 1)
	if _, f := Tick(must(t, s, e), nil, nil); f != api.ErrLimit {
		t.Error(f)
	}
}

func TestSixteenAtATime(t *testing.T) {
	s := start(t, 64, 10)
	for range 40 {
		s = push(t, s, "", api.Fault{Drop: true})
	}
	for at, want := range map[int]int{22: 16, 32: 32, 42: 40} {
		end, e := Run(s, at)
		if must(t, end, e); len(end.Delivered) != want {
			t.Error(at, len(end.Delivered))
		}
	}
	l := []api.Span{{From: 0, To: 40}}
	m, _ := Requests(40, l)
	s.Up.Items, s.Up.Order = []api.Transit{{At: 1, Data: m}}, 1
	s, e := Tick(s, nil, nil)
	if must(t, s, e); len(s.Down.Items) != 16 {
		t.Error(len(s.Down.Items))
	}
}

// A message that the receiver cannot take changes nothing, not even what is lost.
func TestFullReceiver(t *testing.T) {
	s := start(t, 64, 100)
	s.Sender.First = 20000
	for i := range api.MaxSpans {
		s.Receiver.Got = append(s.Receiver.Got, api.Span{From: 2*i + 1, To: 2*i + 2})
	}
	apart, _ := Data(15000, 1, "")
	s.Down.Items, s.Down.Order = []api.Transit{{At: 1, Data: apart}}, 1
	next, e := Tick(must(t, s, api.OK), nil, nil)
	if must(t, next, e); !reflect.DeepEqual(next.Receiver, s.Receiver) || next.Known != 0 || len(next.Delivered) != 0 {
		t.Error(next.Known, next.Receiver.Lost)
	}
	known, _ := Data(1, 2*api.MaxSpans+3, "")
	s.Down.Items[0].Data = known
	next, e = Tick(must(t, s, api.OK), nil, nil)
	if must(t, next, e); !reflect.DeepEqual(next.Receiver, s.Receiver) || next.Known != 0 {
		t.Error(next.Known, next.Receiver.Lost)
	}
	joins, _ := Data(2, 9, "")
	s.Receiver.Lost = []api.Span{{From: 0, To: 1}}
	s.Down.Items[0].Data = joins
	next, e = Tick(must(t, s, api.OK), nil, nil)
	if must(t, next, e); len(next.Delivered) != 1 || next.Known != 3 {
		t.Error(next.Known, next.Delivered)
	}
}

func TestMostArrivalsOfAValidSession(t *testing.T) {
	s := start(t, 1, 1)
	s.Receiver.Got = []api.Span{{From: 0, To: 9999}}
	for i := range 4097 {
		s.Delivered = append(s.Delivered, api.Arrival{Seq: i})
	}
	if Valid(s) {
		t.Error("too many arrivals")
	}
	s.Delivered = s.Delivered[1:]
	must(t, s, api.OK)
}
