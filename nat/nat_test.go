package nat

import (
	"math/big"
	"math/rand"
	"slices"
	"strings"
	"testing"

	"seismonet/api"
)

func toBig(n api.Nat) *big.Int {
	x := new(big.Int)
	for _, limb := range slices.Backward(n) {
		x.Lsh(x, 30).Add(x, big.NewInt(int64(limb)))
	}
	return x
}

func fromBig(x *big.Int) api.Nat {
	x = new(big.Int).Set(x)
	var n api.Nat
	for x.Sign() > 0 {
		n = append(n, int(new(big.Int).And(x, big.NewInt(1<<30-1)).Int64()))
		x.Rsh(x, 30)
	}
	return n
}

func greatest() api.Nat {
	n := make(api.Nat, api.MaxLimbs)
	for i := range n {
		n[i] = 1<<30 - 1
	}
	return n
}

func numbers() []api.Nat {
	r := rand.New(rand.NewSource(11))
	l := []api.Nat{nil, {1}, {2}, {1<<30 - 1}, {0, 1}, {0, 0, 4}, {1, 0, 4}, {0, 0, 1, 5}, greatest(), append(make(api.Nat, 63), 1)}
	for n := 1; n <= 64; n += 3 {
		x := make(api.Nat, n)
		for i := range x {
			x[i] = r.Intn(1 << 30)
		}
		x[n-1] |= 1
		l = append(l, x)
	}
	return l
}

var invalid = []api.Nat{{0}, {1, 0}, {-1}, {1 << 30}, {1, -1}, append(make(api.Nat, 64), 1)}

func expect(t *testing.T, what string, got api.Nat, e api.Errno, want *big.Int) {
	t.Helper()
	n := fromBig(want)
	if len(n) > api.MaxLimbs {
		if got != nil || e != api.ErrLimit {
			t.Error(what, got, e)
		}
	} else if !slices.Equal(got, n) || e != api.OK || !Valid(got) {
		t.Error(what, got, n, e)
	}
}

func TestArithmetic(t *testing.T) {
	for _, a := range numbers() {
		for _, b := range numbers() {
			x, y := toBig(a), toBig(b)
			if got := Compare(a, b); got != x.Cmp(y) {
				t.Error(a, b, got)
			}
			n, e := Add(a, b)
			expect(t, "Add", n, e, new(big.Int).Add(x, y))
			n, e = Mul(a, b)
			expect(t, "Mul", n, e, new(big.Int).Mul(x, y))
			if n, e = Sub(a, b); x.Cmp(y) < 0 {
				if n != nil || e != api.ErrRange {
					t.Error(a, b, n, e)
				}
			} else {
				expect(t, "Sub", n, e, new(big.Int).Sub(x, y))
			}
		}
		for _, d := range []int{1, 2, 3, 1000000000, 1<<30 - 1} {
			q, r, e := DivSmall(a, d)
			want, rest := new(big.Int).DivMod(toBig(a), big.NewInt(int64(d)), new(big.Int))
			expect(t, "DivSmall", q, e, want)
			if int64(r) != rest.Int64() {
				t.Error(a, d, r, rest)
			}
		}
		for _, d := range []int{0, -1, 1 << 30} {
			if q, r, e := DivSmall(a, d); q != nil || r != 0 || e != api.ErrRange {
				t.Error(a, d, q, r, e)
			}
		}
	}
}

func TestInvalidNumbers(t *testing.T) {
	one := api.Nat{1}
	for _, n := range invalid {
		if Valid(n) || Compare(n, one) != 0 || Compare(one, n) != 0 {
			t.Error(n)
		}
		for _, f := range []func(a, b api.Nat) (api.Nat, api.Errno){Add, Sub, Mul} {
			if got, e := f(n, one); got != nil || e != api.ErrInvalid {
				t.Error(n, got, e)
			}
			if got, e := f(one, n); got != nil || e != api.ErrInvalid {
				t.Error(n, got, e)
			}
		}
		if q, r, e := DivSmall(n, 0); q != nil || r != 0 || e != api.ErrInvalid {
			t.Error(n, e)
		}
		if x, e := Int(n); x != 0 || e != api.ErrInvalid {
			t.Error(n, e)
		}
		if s, e := Text(n); s != "" || e != api.ErrInvalid {
			t.Error(n, e)
		}
		for _, f := range []api.Fraction{{Num: n, Den: one}, {Num: one, Den: n}, {Num: one}} {
			good := api.Fraction{Num: one, Den: one}
			if ValidFraction(f) {
				t.Error(f)
			}
			for _, pair := range [][2]api.Fraction{{f, good}, {good, f}} {
				if x, e := Less(pair[0], pair[1]); x || e != api.ErrInvalid {
					t.Error(f, e)
				}
				if x, e := Equal(pair[0], pair[1]); x || e != api.ErrInvalid {
					t.Error(f, e)
				}
				if x, e := Times(pair[0], pair[1]); x.Num != nil || x.Den != nil || e != api.ErrInvalid {
					t.Error(f, e)
				}
			}
		}
	}
}

func TestInts(t *testing.T) {
	for _, n := range []int{0, 1, 1<<30 - 1, 1 << 30, 1<<60 + 5, 1 << 62, 1<<62 + 1, 1<<63 - 1} {
		x, e := From(n)
		if e != api.OK || !Valid(x) || toBig(x).Int64() != int64(n) {
			t.Error(n, x, e)
		}
		back, e := Int(x)
		if n <= 1<<62 && (back != n || e != api.OK) || n > 1<<62 && (back != 0 || e != api.ErrRange) {
			t.Error(n, back, e)
		}
	}
	for _, n := range []int{-1, -1 << 63} {
		if x, e := From(n); x != nil || e != api.ErrRange {
			t.Error(n, x, e)
		}
	}
	if x, _ := From(1 << 30); !slices.Equal(x, api.Nat{0, 1}) {
		t.Error(x)
	}
	if x, e := Int(greatest()); x != 0 || e != api.ErrRange {
		t.Error(x, e)
	}
}

func TestTexts(t *testing.T) {
	for _, n := range numbers() {
		s, e := Text(n)
		if s != toBig(n).String() || e != api.OK {
			t.Error(n, s, e)
		}
		if back, e := Parse(s); !slices.Equal(back, n) || e != api.OK {
			t.Error(s, back, e)
		}
	}
	if s, _ := Text(api.Nat{0, 0, 1}); s != "1152921504606846976" {
		t.Error(s)
	}
	for _, s := range []string{"", "00", "01", "-1", "+1", " 1", "1 ", "1a", "0x1", "١", strings.Repeat("1", 9999) + "a"} {
		if n, e := Parse(s); n != nil || e != api.ErrFormat {
			t.Error(s, n, e)
		}
	}
	over := new(big.Int).Add(toBig(greatest()), big.NewInt(1)).String()
	for _, s := range []string{over, strings.Repeat("9", 5000)} {
		if n, e := Parse(s); n != nil || e != api.ErrLimit {
			t.Error(len(s), e)
		}
	}
}

func TestFractions(t *testing.T) {
	r := rand.New(rand.NewSource(12))
	l := numbers()
	for range 2000 {
		a := api.Fraction{Num: l[r.Intn(len(l))], Den: l[1+r.Intn(len(l)-1)]}
		b := api.Fraction{Num: l[r.Intn(len(l))], Den: l[1+r.Intn(len(l)-1)]}
		if !ValidFraction(a) {
			t.Fatal(a)
		}
		x := new(big.Rat).SetFrac(toBig(a.Num), toBig(a.Den))
		y := new(big.Rat).SetFrac(toBig(b.Num), toBig(b.Den))
		if got, e := Less(a, b); got != (x.Cmp(y) < 0) || e != api.OK {
			t.Fatal("Less", a, b, got, e)
		}
		if got, e := Equal(a, b); got != (x.Cmp(y) == 0) || e != api.OK {
			t.Fatal("Equal", a, b, got, e)
		}
		num, e := Mul(a.Num, b.Num)
		den, f := Mul(a.Den, b.Den)
		got, g := Times(a, b)
		if e != api.OK || f != api.OK {
			if g != api.ErrLimit || got.Num != nil || got.Den != nil {
				t.Fatal("Times", a, b, g)
			}
		} else if g != api.OK || !slices.Equal(got.Num, num) || !slices.Equal(got.Den, den) {
			t.Fatal("Times", a, b, got, g)
		}
	}
	if same, _ := Equal(api.Fraction{Num: api.Nat{2}, Den: api.Nat{4}}, api.Fraction{Num: api.Nat{1}, Den: api.Nat{2}}); !same {
		t.Error("2/4 is 1/2")
	}
}

func TestSharesNothing(t *testing.T) {
	a, b := api.Nat{1, 2, 3}, api.Nat{1}
	sum, _ := Add(a, nil)
	difference, _ := Sub(a, nil)
	product, _ := Mul(a, b)
	q, _, _ := DivSmall(a, 1)
	f, _ := Times(api.Fraction{Num: a, Den: a}, api.Fraction{Num: b, Den: b})
	for _, n := range []api.Nat{sum, difference, product, q, f.Num} {
		n[0] = 99
	}
	if a[0] != 1 || f.Den[0] != 1 {
		t.Error("memory is shared")
	}
}
