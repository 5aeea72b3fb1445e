package crc

import (
	"hash/crc32"
	"math/rand"
	"strings"
	"testing"

	"seismonet/api"
)

func texts() []string {
	r := rand.New(rand.NewSource(2))
	l := []string{"", "a", "123456789", "\x00", "\xff\xff\xff\xff", strings.Repeat("seismonet", 500)}
	for n := range 40 {
		b := make([]byte, n)
		r.Read(b)
		l = append(l, string(b))
	}
	return l
}

func TestSumAndUpdate(t *testing.T) {
	if Sum("123456789") != 0xCBF43926 || Sum("") != 0 {
		t.Error(Sum("123456789"), Sum(""))
	}
	for _, s := range texts() {
		want := int(crc32.ChecksumIEEE([]byte(s)))
		if Sum(s) != want {
			t.Error(s, Sum(s), want)
		}
		for i := 0; i <= len(s); i += 1 + len(s)/7 {
			if got := Update(Sum(s[:i]), s[i:]); got != want {
				t.Error(s, i, got, want)
			}
		}
	}
	for _, sum := range []int{-1, 1 << 32, -1 << 63, 1<<63 - 1} {
		if Update(sum, "abc") != 0 {
			t.Error(sum)
		}
	}
}

func TestAppendAndCheck(t *testing.T) {
	if got := Append("123456789"); got != "123456789\x26\x39\xF4\xCB" {
		t.Errorf("%x", got)
	}
	for _, s := range texts() {
		a := Append(s)
		if !Check(a) || Check(a+"a") || Check(a[:len(a)-1]) || Check("a"+a) {
			t.Errorf("%x", s)
		}
	}
	for _, s := range []string{"", "a", "abc", "abcd"} {
		if Check(s) {
			t.Error(s)
		}
	}
	if !Check("\x00\x00\x00\x00") {
		t.Error("the sum of nothing is 0")
	}
}

func TestFlip(t *testing.T) {
	if got, e := Flip("\x00\x00\x00", 6, 5, 0b10111); got != "\xC0\x05\x00" || e != api.OK {
		t.Errorf("%x %v", got, e)
	}
	a := Append("seismonet")
	for at := 0; at < 8*len(a); at++ {
		for _, length := range []int{1, 2, 9, 32} {
			mask := 1<<(length-1) | 1
			got, e := Flip(a, at, length, mask)
			if at+length > 8*len(a) {
				if got != "" || e != api.ErrTruncated {
					t.Fatal(at, length, e)
				}
				continue
			}
			if e != api.OK || got == a || Check(got) {
				t.Fatal(at, length, e)
			}
			if back, _ := Flip(got, at, length, mask); back != a {
				t.Fatal(at, length)
			}
		}
	}
	for _, c := range [][3]int{{0, 0, 0}, {0, 33, 0}, {-1, 1, 0}, {0, 3, 8}, {0, 3, -1}, {0, -1, 0}, {-1 << 63, 1, 0}, {0, 32, 1 << 32}} {
		if got, e := Flip("", c[0], c[1], c[2]); got != "" || e != api.ErrRange {
			t.Error(c, got, e)
		}
	}
	if _, e := Flip("abc", 1<<63-1, 32, 0); e != api.ErrTruncated {
		t.Error(e)
	}
	if got, e := Flip("abcd", 0, 32, 1<<32-1); got != "\x9e\x9d\x9c\x9b" || e != api.OK {
		t.Errorf("%x %v", got, e)
	}
}
