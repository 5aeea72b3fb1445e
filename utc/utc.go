// Package utc: civil time with leap seconds.
package utc

import (
	"slices"
	"sort"

	"seismonet/api"
	"seismonet/common"
)

const (
	secondsOfDay = 86400
	firstYear    = 1970
	lastYear     = 2300
	daysOfEra    = 146097 // of 400 years
	daysTo1970   = 719468 // from 0000-03-01
)

// Valid reports whether a table of leap seconds is valid.
func Valid(leaps []int) bool {
	if len(leaps) > api.MaxLeaps {
		return false
	}
	before := 0
	for i, l := range leaps {
		if l < 1 || l > api.MaxTime/api.Second {
			return false
		}
		civil := l - i
		if civil%secondsOfDay != 0 || civil <= before {
			return false
		}
		before = civil
	}
	return true
}

func leapYear(year int) bool {
	return year%4 == 0 && (year%100 != 0 || year%400 == 0)
}

func daysOfMonth(year, month int) int {
	switch month {
	case 2:
		if leapYear(year) {
			return 29
		}
		return 28
	case 4, 6, 9, 11:
		return 30
	}
	return 31
}

// Days returns the day number of a date.
func Days(year, month, day int) (int, bool) {
	if year < firstYear || year > lastYear || month < 1 || month > 12 || day < 1 || day > daysOfMonth(year, month) {
		return 0, false
	}
	return dayNumber(year, month, day), true
}

// dayNumber counts years from March on, so that the day of a leap year is the last one of its year.
func dayNumber(year, month, day int) int {
	if month <= 2 {
		year--
	}
	era := year / 400
	yearOfEra := year % 400
	dayOfYear := (153*((month+9)%12)+2)/5 + day - 1
	return era*daysOfEra + yearOfEra*365 + yearOfEra/4 - yearOfEra/100 + dayOfYear - daysTo1970
}

// Date returns the date of a day number.
func Date(days int) (year, month, day int) {
	if days < 0 || days > dayNumber(lastYear, 12, 31) {
		return 0, 0, 0
	}
	n := days + daysTo1970
	era := n / daysOfEra
	dayOfEra := n % daysOfEra
	yearOfEra := (dayOfEra - dayOfEra/1460 + dayOfEra/36524 - dayOfEra/146096) / 365
	dayOfYear := dayOfEra - (365*yearOfEra + yearOfEra/4 - yearOfEra/100)
	fromMarch := (5*dayOfYear + 2) / 153
	day = dayOfYear - (153*fromMarch+2)/5 + 1
	month = (fromMarch+2)%12 + 1
	year = era*400 + yearOfEra
	if month <= 2 {
		year++
	}
	return year, month, day
}

func isTime(t int) bool {
	return t >= 0 && t <= api.MaxTime
}

// Offset returns the number of leap seconds that are less than the second of t.
func Offset(leaps []int, t int) int {
	if !Valid(leaps) || !isTime(t) {
		return 0
	}
	n, _ := slices.BinarySearch(leaps, t/api.Second)
	return n
}

// ToCivil returns the civil time of t.
func ToCivil(leaps []int, t int) (api.Civil, api.Errno) {
	if !Valid(leaps) {
		return api.Civil{}, api.ErrInvalid
	}
	if !isTime(t) {
		return api.Civil{}, api.ErrRange
	}
	second := t / api.Second
	before, isLeap := slices.BinarySearch(leaps, second)
	civil := second - before
	if isLeap {
		c := civilOf(civil - 1)
		c.Second = 60
		c.Micro = t % api.Second
		return c, api.OK
	}
	c := civilOf(civil)
	c.Micro = t % api.Second
	return c, api.OK
}

func civilOf(second int) api.Civil {
	year, month, day := Date(second / secondsOfDay)
	rest := second % secondsOfDay
	return api.Civil{Year: year, Month: month, Day: day, Hour: rest / 3600, Minute: rest / 60 % 60, Second: rest % 60}
}

// FromCivil returns the time of a civil time.
func FromCivil(leaps []int, c api.Civil) (int, api.Errno) {
	if !Valid(leaps) {
		return 0, api.ErrInvalid
	}
	day, ok := Days(c.Year, c.Month, c.Day)
	if !ok || !common.Within(c.Hour, 0, 23) || !common.Within(c.Minute, 0, 59) || !common.Within(c.Second, 0, 60) || !common.Within(c.Micro, 0, api.Second-1) {
		return 0, api.ErrRange
	}
	second, ok := secondOf(leaps, day, c)
	if !ok {
		return 0, api.ErrNotFound
	}
	t := second*api.Second + c.Micro
	if t > api.MaxTime {
		return 0, api.ErrRange
	}
	return t, api.OK
}

func secondOf(leaps []int, day int, c api.Civil) (int, bool) {
	if c.Second == 60 {
		if c.Hour != 23 || c.Minute != 59 {
			return 0, false
		}
		midnight := (day + 1) * secondsOfDay
		i := sort.Search(len(leaps), func(i int) bool { return leaps[i]-i >= midnight })
		if i == len(leaps) || leaps[i]-i != midnight {
			return 0, false
		}
		return leaps[i], true
	}
	civil := day*secondsOfDay + c.Hour*3600 + c.Minute*60 + c.Second
	before := sort.Search(len(leaps), func(i int) bool { return leaps[i]-i > civil })
	return civil + before, true
}

func appendPadded(b []byte, n, width int) []byte {
	unit := 1
	for range width - 1 {
		unit *= 10
	}
	for ; unit > 0; unit /= 10 {
		b = append(b, byte('0'+n/unit%10))
	}
	return b
}

// Format returns a time as YYYY-MM-DDThh:mm:ss.uuuuuuZ.
func Format(leaps []int, t int) (string, api.Errno) {
	c, e := ToCivil(leaps, t)
	if e != api.OK {
		return "", e
	}
	b := appendPadded(nil, c.Year, 4)
	b = append(b, '-')
	b = appendPadded(b, c.Month, 2)
	b = append(b, '-')
	b = appendPadded(b, c.Day, 2)
	b = append(b, 'T')
	b = appendPadded(b, c.Hour, 2)
	b = append(b, ':')
	b = appendPadded(b, c.Minute, 2)
	b = append(b, ':')
	b = appendPadded(b, c.Second, 2)
	b = append(b, '.')
	b = appendPadded(b, c.Micro, 6)
	return string(append(b, 'Z')), api.OK
}

const layout = "dddd-dd-ddTdd:dd:dd.ddddddZ"

func hasLayout(text string) bool {
	if len(text) != len(layout) {
		return false
	}
	for i := range len(layout) {
		if layout[i] == 'd' {
			if text[i] < '0' || text[i] > '9' {
				return false
			}
		} else if text[i] != layout[i] {
			return false
		}
	}
	return true
}

func number(digits string) int {
	n := 0
	for i := range len(digits) {
		n = 10*n + int(digits[i]-'0')
	}
	return n
}

// Parse returns the time of a text in the form of Format.
func Parse(leaps []int, text string) (int, api.Errno) {
	if !Valid(leaps) {
		return 0, api.ErrInvalid
	}
	if !hasLayout(text) {
		return 0, api.ErrFormat
	}
	return FromCivil(leaps, api.Civil{
		Year: number(text[0:4]), Month: number(text[5:7]), Day: number(text[8:10]),
		Hour: number(text[11:13]), Minute: number(text[14:16]), Second: number(text[17:19]),
		Micro: number(text[20:26]),
	})
}
