package geometry

import (
	"math/big"
	"math/rand"
	"testing"

	"seismonet/api"
)

const (
	least    = -1 << 63
	greatest = 1<<63 - 1
)

func at(x, y, z int) api.Position {
	return api.Position{X: x, Y: y, Z: z}
}

func box(a, b, c, d, e, f int) api.Box {
	return api.Box{Low: at(a, b, c), High: at(d, e, f)}
}

var whole = box(-api.MaxPlace, -api.MaxPlace, api.MinDepth, api.MaxPlace, api.MaxPlace, api.MaxPlace)

func badPositions() []api.Position {
	return []api.Position{
		at(api.MaxPlace+1, 0, 0), at(-api.MaxPlace-1, 0, 0), at(0, api.MaxPlace+1, 0), at(0, -api.MaxPlace-1, 0), at(0, 0, api.MaxPlace+1), at(0, 0, api.MinDepth-1), at(least, greatest, least),
	}
}

func TestValid(t *testing.T) {
	if !Valid(whole.Low) || !Valid(whole.High) || !Valid(at(0, 0, 0)) || !ValidBox(whole) || !ValidBox(box(1, 1, 1, 1, 1, 1)) {
		t.Error("valid")
	}
	good := box(0, 0, 0, 9, 4, 4)
	bad := []api.Box{box(1, 0, 0, 0, 0, 0), box(0, 1, 0, 0, 0, 0), box(0, 0, 1, 0, 0, 0)}
	for i, p := range badPositions() {
		if Valid(p) || Square(p, at(0, 0, 0)) != 0 || Square(at(5, 5, 5), p) != 0 || Near(good, p) != 0 || Far(good, p) != 0 || Contains(good, p) {
			t.Error(i)
		}
		bad = append(bad, api.Box{Low: p, High: good.High}, api.Box{Low: good.Low, High: p}, api.Box{Low: p, High: p})
	}
	for i, b := range bad {
		a, c, ok := Split(b)
		if ValidBox(b) || Near(b, at(9, 9, 9)) != 0 || Far(b, at(9, 9, 9)) != 0 || Contains(b, b.Low) || Within(b, whole) || Within(good, b) || Points(b) != 0 ||
			Center(b) != at(0, 0, 0) || a != (api.Box{}) || c != (api.Box{}) || ok || Hull(b, good) != (api.Box{}) || Hull(good, b) != (api.Box{}) {
			t.Error(i, b)
		}
	}
}

func TestRoots(t *testing.T) {
	check := func(n int) {
		f, c := Floor(n), Ceil(n)
		root := new(big.Int).Sqrt(big.NewInt(int64(max(n, 0)))).Int64()
		up := root
		if n > 0 && root*root < int64(n) {
			up++
		}
		if int64(f) != root || int64(c) != up {
			t.Fatal(n, f, c)
		}
	}
	for n := -10; n < 3000; n++ {
		check(n)
	}
	for shift := range 63 {
		for d := -2; d <= 2; d++ {
			check(1<<shift + d)
		}
	}
	for _, n := range []int{least, greatest, greatest - 1, 3037000499 * 3037000499, 3037000499*3037000499 - 1, 3037000499*3037000499 + 1} {
		check(n)
	}
}

func TestExamples(t *testing.T) {
	b := box(0, 0, 0, 9, 4, 4)
	if Floor(10) != 3 || Ceil(10) != 4 || Floor(9) != 3 || Ceil(9) != 3 {
		t.Error("roots")
	}
	if Near(b, at(12, 2, 0)) != 9 || Far(b, at(12, 2, 0)) != 164 {
		t.Error("distances")
	}
	first, second, ok := Split(b)
	if first != box(0, 0, 0, 4, 4, 4) || second != box(5, 0, 0, 9, 4, 4) || !ok || Center(b) != at(4, 2, 2) {
		t.Error(first, second, ok)
	}
	if Square(whole.Low, whole.High) != 2*(1<<21)*(1<<21)+(1<<20+1<<14)*(1<<20+1<<14) || Points(whole) != (1<<21+1)*(1<<21+1)*(1<<20+1<<14+1) {
		t.Error("the greatest box")
	}
	if first, second, ok := Split(box(3, 3, 3, 3, 3, 3)); ok || first != (api.Box{}) || second != (api.Box{}) {
		t.Error("one point")
	}
	if first, second, _ := Split(box(-3, 0, 0, 0, 3, 3)); first != box(-3, 0, 0, -2, 3, 3) || second != box(-1, 0, 0, 0, 3, 3) {
		t.Error(first, second)
	}
	if first, _, _ := Split(box(0, 0, 0, 2, 3, 3)); first != box(0, 0, 0, 2, 1, 3) {
		t.Error(first)
	}
	if first, _, _ := Split(box(0, 0, 0, 2, 2, 3)); first != box(0, 0, 0, 2, 2, 1) {
		t.Error(first)
	}
}

func points(b api.Box) []api.Position {
	var l []api.Position
	for x := b.Low.X; x <= b.High.X; x++ {
		for y := b.Low.Y; y <= b.High.Y; y++ {
			for z := b.Low.Z; z <= b.High.Z; z++ {
				l = append(l, at(x, y, z))
			}
		}
	}
	return l
}

func TestRandomBoxes(t *testing.T) {
	r := rand.New(rand.NewSource(20))
	random := func() api.Box {
		b := box(r.Intn(9)-4, r.Intn(9)-4, r.Intn(9)-4, 0, 0, 0)
		b.High = at(b.Low.X+r.Intn(4), b.Low.Y+r.Intn(4), b.Low.Z+r.Intn(4))
		return b
	}
	for range 500 {
		a, b := random(), random()
		p := at(r.Intn(21)-10, r.Intn(21)-10, r.Intn(21)-10)
		near, far := greatest, 0
		inside := true
		for _, q := range points(a) {
			near, far = min(near, Square(p, q)), max(far, Square(p, q))
			inside = inside && Contains(b, q)
			if !Contains(a, q) || !Contains(Hull(a, b), q) {
				t.Fatal(a, q)
			}
		}
		if Near(a, p) != near || Far(a, p) != far || Within(a, b) != inside || Points(a) != len(points(a)) || Contains(a, p) != (near == 0) {
			t.Fatal(a, b, p)
		}
		if h := Hull(a, b); h != Hull(b, a) || !Within(a, h) || !Within(b, h) || Hull(a, a) != a {
			t.Fatal(h)
		}
		first, second, ok := Split(a)
		if ok != (Points(a) > 1) {
			t.Fatal(a)
		}
		if ok && (!Within(first, a) || !Within(second, a) || Points(first)+Points(second) != Points(a) || !Contains(first, Center(a)) || Contains(second, Center(a)) || Hull(first, second) != a) {
			t.Fatal(a, first, second)
		}
	}
}

func TestCompare(t *testing.T) {
	ascending := []api.Position{at(least, greatest, 0), at(0, least, greatest), at(0, 0, 1), at(0, 0, 2), at(0, 1, 0), at(1, 0, 0), at(greatest, 0, 0)}
	for i, a := range ascending {
		for k, b := range ascending {
			want := 0
			if i < k {
				want = -1
			} else if i > k {
				want = 1
			}
			if Compare(a, b) != want {
				t.Error(a, b)
			}
		}
	}
}
