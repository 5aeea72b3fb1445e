package logarithm

import (
	"math/big"
	"math/rand"
	"testing"

	"seismonet/api"
	"seismonet/nat"
)

// checkBounds checks that 2^r is at most n^256, and n^256 is less than 2^(r + 2).
func checkBounds(t *testing.T, n *big.Int, r int) {
	t.Helper()
	power := new(big.Int).Exp(n, big.NewInt(256), nil)
	if power.BitLen()-1 < r || power.BitLen() > r+2 {
		t.Fatal(n, r, power.BitLen())
	}
}

func numbers() []int {
	r := rand.New(rand.NewSource(28))
	l := []int{1<<63 - 1, 1 << 62}
	for n := 1; n < 600; n++ {
		l = append(l, n)
	}
	for shift := range 62 {
		l = append(l, 1<<shift+r.Intn(1<<shift), 2<<shift-1, 1<<shift)
	}
	return l
}

func TestLog(t *testing.T) {
	for n, want := range map[int]int{1: 0, 2: 256, 1024: 2560, 3: 405} {
		if got, e := Log(n); got != want || e != api.OK {
			t.Error(n, got, e)
		}
	}
	before := 0
	for n := 1; n < 5000; n++ {
		r, _ := Log(n)
		if r < before {
			t.Error(n)
		}
		before = r
	}
	for _, n := range numbers() {
		r, e := Log(n)
		if e != api.OK {
			t.Error(n, e)
		}
		checkBounds(t, big.NewInt(int64(n)), r)
		x, _ := nat.From(n)
		if again, e := LogNat(x); again != r || e != api.OK {
			t.Error(n, r, again, e)
		}
		if n < 1<<61 {
			if twice, _ := Log(2 * n); twice != r+256 {
				t.Error(n)
			}
		}
	}
	for _, n := range []int{0, -1, -1 << 63} {
		if r, e := Log(n); r != 0 || e != api.ErrRange {
			t.Error(n, r, e)
		}
	}
}

// first computes the logarithm by the definition.
func first(n *big.Int) int {
	c := n.BitLen() - 1
	m := new(big.Int)
	if c <= 30 {
		m.Lsh(n, uint(30-c))
	} else {
		m.Rsh(n, uint(c-30))
	}
	x := int(m.Int64())
	d := 0
	for range 8 {
		x = x * x / (1 << 30)
		d *= 2
		if x >= 1<<31 {
			x /= 2
			d++
		}
	}
	return 256*c + d
}

func TestLogNat(t *testing.T) {
	r := rand.New(rand.NewSource(29))
	for range 500 {
		n := make(api.Nat, 1+r.Intn(64))
		x := new(big.Int)
		for i := range n {
			n[i] = r.Intn(1 << (1 + r.Intn(30)))
		}
		n[len(n)-1] |= 1
		for i := len(n) - 1; i >= 0; i-- {
			x.Lsh(x, 30).Add(x, big.NewInt(int64(n[i])))
		}
		got, e := LogNat(n)
		if e != api.OK || got != first(x) {
			t.Fatal(n, got, first(x), e)
		}
		checkBounds(t, x, got)
	}
	for _, n := range []api.Nat{{0}, {-1}, {1 << 30}, make(api.Nat, 65)} {
		if r, e := LogNat(n); r != 0 || e != api.ErrInvalid {
			t.Error(n, r, e)
		}
	}
	if r, e := LogNat(nil); r != 0 || e != api.ErrRange {
		t.Error(r, e)
	}
}

func TestProducts(t *testing.T) {
	r := rand.New(rand.NewSource(30))
	for range 2000 {
		a, b := 1+r.Intn(1<<(1+r.Intn(30))), 1+r.Intn(1<<(1+r.Intn(30)))
		x, _ := Log(a)
		y, _ := Log(b)
		z, _ := Log(a * b)
		if x+y > z+1 || z > x+y+3 {
			t.Fatal(a, b, x, y, z)
		}
	}
}

func TestHundredths(t *testing.T) {
	for _, c := range [][3]int{{256, 30, 31}, {-256, -31, -30}, {0, 0, 0}, {1, 0, 1}, {-1, -1, 0}, {256000, 30103, 30103}, {-256000, -30103, -30103}, {1<<24 + 1, 0, 0}, {-1<<24 - 1, 0, 0}, {1 << 24, 1972830, 1972831}, {-1 << 24, -1972831, -1972830}, {-1 << 63, 0, 0}, {1<<63 - 1, 0, 0}} {
		if Floor(c[0]) != c[1] || Ceil(c[0]) != c[2] {
			t.Error(c, Floor(c[0]), Ceil(c[0]))
		}
	}
	for l := -3000; l < 3000; l++ {
		if f, c := Floor(l), Ceil(l); f*256000 > l*30103 || (f+1)*256000 <= l*30103 || c*256000 < l*30103 || (c-1)*256000 >= l*30103 {
			t.Fatal(l, f, c)
		}
	}
}
