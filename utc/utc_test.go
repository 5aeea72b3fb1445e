package utc

import (
	"testing"

	"seismonet/api"
)

var table = []int{86400, 172801, 10*86400 + 2}

func TestValid(t *testing.T) {
	long := make([]int, api.MaxLeaps+1)
	for i := range long {
		long[i] = 86400*(i+1) + i
	}
	last := api.MaxTime / api.Second
	for _, c := range []struct {
		leaps []int
		want  bool
	}{
		{nil, true}, {table, true}, {[]int{0}, false}, {[]int{86401}, false},
		{[]int{86400, 86401}, false}, {[]int{86400, 172800}, false}, {[]int{172800, 86401}, false},
		{[]int{-86400}, false}, {long[:api.MaxLeaps], true}, {long, false},
		{[]int{last / 86400 * 86400}, true}, {[]int{last/86400*86400 + 86400}, false},
	} {
		if Valid(c.leaps) != c.want {
			t.Error(c.leaps, c.want)
		}
	}
}

func TestDaysCountsEveryDate(t *testing.T) {
	lengths := []int{31, 28, 31, 30, 31, 30, 31, 31, 30, 31, 30, 31}
	n := 0
	for year := 1970; year <= 2300; year++ {
		for month := 1; month <= 12; month++ {
			length := lengths[month-1]
			if month == 2 && (year%4 == 0 && year%100 != 0 || year%400 == 0) {
				length++
			}
			for day := 1; day <= length; day++ {
				if got, ok := Days(year, month, day); got != n || !ok {
					t.Fatal(year, month, day, got, n)
				}
				if y, m, d := Date(n); y != year || m != month || d != day {
					t.Fatal(n, y, m, d)
				}
				n++
			}
			for _, day := range []int{0, -1, length + 1} {
				if got, ok := Days(year, month, day); got != 0 || ok {
					t.Fatal(year, month, day)
				}
			}
		}
	}
	for _, year := range []int{1969, 2301, -1 << 63, 1<<63 - 1} {
		if _, ok := Days(year, 1, 1); ok {
			t.Error(year)
		}
	}
	for _, month := range []int{0, 13, -1} {
		if _, ok := Days(2000, month, 1); ok {
			t.Error(month)
		}
	}
	for _, d := range []int{-1, n, 1<<63 - 1, -1 << 63} {
		if y, m, day := Date(d); y != 0 || m != 0 || day != 0 {
			t.Error(d, y, m, day)
		}
	}
}

func TestOffset(t *testing.T) {
	for _, c := range []struct{ second, want int }{{0, 0}, {86399, 0}, {86400, 0}, {86401, 1}, {172801, 1}, {172802, 2}, {10*86400 + 3, 3}} {
		if got := Offset(table, c.second*api.Second+999999); got != c.want {
			t.Error(c, got)
		}
	}
	if Offset([]int{1}, 5*api.Second) != 0 || Offset(table, -1) != 0 || Offset(table, api.MaxTime+1) != 0 {
		t.Error("invalid arguments have an offset")
	}
}

func TestCivilTimesAreInverse(t *testing.T) {
	var before api.Civil
	for second := 86400 - 3; second < 11*86400; second++ {
		at := second*api.Second + second%api.Second
		c, e := ToCivil(table, at)
		if e != api.OK {
			t.Fatal(second, e)
		}
		back, e := FromCivil(table, c)
		if e != api.OK || back != at {
			t.Fatal(second, c, back, e)
		}
		if before.Day > c.Day || before.Day == c.Day && before.Hour > c.Hour {
			t.Fatal(before, c)
		}
		before = c
	}
}

func TestLeapSecond(t *testing.T) {
	for _, c := range []struct {
		second int
		want   api.Civil
	}{
		{86399, api.Civil{Year: 1970, Month: 1, Day: 1, Hour: 23, Minute: 59, Second: 59}},
		{86400, api.Civil{Year: 1970, Month: 1, Day: 1, Hour: 23, Minute: 59, Second: 60}},
		{86401, api.Civil{Year: 1970, Month: 1, Day: 2}},
		{172801, api.Civil{Year: 1970, Month: 1, Day: 2, Hour: 23, Minute: 59, Second: 60}},
	} {
		if got, e := ToCivil(table, c.second*api.Second); got != c.want || e != api.OK {
			t.Error(c, got, e)
		}
	}
}

func TestCivilErrors(t *testing.T) {
	if c, e := ToCivil([]int{5}, -1); c != (api.Civil{}) || e != api.ErrInvalid {
		t.Error(c, e)
	}
	for _, at := range []int{-1, api.MaxTime + 1, 1<<63 - 1, -1 << 63} {
		if c, e := ToCivil(table, at); c != (api.Civil{}) || e != api.ErrRange {
			t.Error(at, c, e)
		}
	}
	good := api.Civil{Year: 1970, Month: 1, Day: 1, Hour: 23, Minute: 59, Second: 60}
	change := func(f func(*api.Civil)) api.Civil {
		c := good
		f(&c)
		return c
	}
	for _, c := range []struct {
		leaps []int
		c     api.Civil
		want  api.Errno
	}{
		{table, good, api.OK},
		{[]int{5}, api.Civil{}, api.ErrInvalid},
		{table, api.Civil{}, api.ErrRange},
		{nil, change(func(c *api.Civil) { c.Hour = 24 }), api.ErrRange},
		{nil, change(func(c *api.Civil) { c.Hour = -1 }), api.ErrRange},
		{nil, change(func(c *api.Civil) { c.Minute = 60 }), api.ErrRange},
		{nil, change(func(c *api.Civil) { c.Minute = -1 }), api.ErrRange},
		{nil, change(func(c *api.Civil) { c.Second = 61 }), api.ErrRange},
		{nil, change(func(c *api.Civil) { c.Second = -1 }), api.ErrRange},
		{nil, change(func(c *api.Civil) { c.Micro = 1000000 }), api.ErrRange},
		{nil, change(func(c *api.Civil) { c.Micro = -1 }), api.ErrRange},
		{nil, good, api.ErrNotFound},
		{table, change(func(c *api.Civil) { c.Minute = 58 }), api.ErrNotFound},
		{table, change(func(c *api.Civil) { c.Day = 3 }), api.ErrNotFound},
		{table, change(func(c *api.Civil) { c.Year, c.Second = 2299, 0 }), api.ErrRange},
	} {
		if n, e := FromCivil(c.leaps, c.c); e != c.want || e != api.OK && n != 0 {
			t.Error(c, n, e)
		}
	}
}

func TestTexts(t *testing.T) {
	if s, e := Format([]int{86400}, 86400000007); s != "1970-01-01T23:59:60.000007Z" || e != api.OK {
		t.Error(s, e)
	}
	for _, at := range []int{0, 1, 86400 * api.Second, api.MaxTime, 951782400123456} {
		s, e := Format(table, at)
		if e != api.OK {
			t.Error(at, e)
		}
		if back, e := Parse(table, s); back != at || e != api.OK {
			t.Error(at, s, back, e)
		}
	}
	if s, e := Format([]int{5}, -1); s != "" || e != api.ErrInvalid {
		t.Error(s, e)
	}
	if s, e := Format(nil, -1); s != "" || e != api.ErrRange {
		t.Error(s, e)
	}
	for _, c := range []struct {
		text string
		want api.Errno
	}{
		{"1970-01-01T23:59:60.000007Z", api.ErrNotFound}, {"1970-00-01T23:59:50.000007Z", api.ErrRange},
		{"1970-01-01T23:59:50.00007Z", api.ErrFormat}, {"1970-01-01T23:59:50.0000007Z", api.ErrFormat},
		{"1970-01-01t23:59:50.000007Z", api.ErrFormat}, {"1970-01-01T23:59:50.000007z", api.ErrFormat},
		{"1970-01-01T-3:59:50.000007Z", api.ErrFormat}, {"1970/01/01T23:59:50.000007Z", api.ErrFormat},
		{"", api.ErrFormat}, {"2255-06-05T23:47:34.740993Z", api.ErrRange}, {"2255-06-05T23:47:34.740992Z", api.OK},
	} {
		if n, e := Parse(nil, c.text); e != c.want || e != api.OK && n != 0 {
			t.Error(c, n, e)
		}
	}
	if _, e := Parse([]int{5}, ""); e != api.ErrInvalid {
		t.Error(e)
	}
}
