package num

import (
	"math"
	"math/big"
	"math/rand"
	"testing"
)

const (
	least = math.MinInt64
	most  = math.MaxInt64
)

type binary func(a, b int64) (int64, bool)

// samples returns numbers of all magnitudes, among them the ends of int64, the powers of two and their neighbours.
func samples() []int64 {
	list := []int64{0, least, least + 1, most, most - 1, 3037000499, 3037000500, -3037000499, -3037000500}
	for n := int64(1); n <= 12; n++ {
		list = append(list, n, -n)
	}
	for k := 4; k < 63; k++ {
		p := int64(1) << k
		list = append(list, p-1, p, p+1, -p-1, -p, -p+1)
	}
	source := rand.New(rand.NewSource(1))
	for range 100 {
		n := int64(source.Uint64() >> source.Intn(64))
		list = append(list, n, -n)
	}
	return list
}

// fit returns what a checked function returns for the exact result n.
func fit(n *big.Int) (int64, bool) {
	if !n.IsInt64() {
		return 0, false
	}
	return n.Int64(), true
}

// compare checks f for all pairs of samples against the exact result; a nil result means that there is none.
func compare(t *testing.T, name string, f binary, exact func(a, b *big.Int) *big.Int) {
	t.Helper()
	list := samples()
	for _, a := range list {
		for _, b := range list {
			var want int64
			var wantOK bool
			if n := exact(big.NewInt(a), big.NewInt(b)); n != nil {
				want, wantOK = fit(n)
			}
			if got, ok := f(a, b); got != want || ok != wantOK {
				t.Fatalf("%s(%d, %d) = %d, %t, not %d, %t", name, a, b, got, ok, want, wantOK)
			}
		}
	}
}

// floorParts returns the quotient rounded down and the rest that belongs to it, or nil if b is 0.
func floorParts(a, b *big.Int) (q, r *big.Int) {
	if b.Sign() == 0 {
		return nil, nil
	}
	q, r = new(big.Int).QuoRem(a, b, new(big.Int))
	if r.Sign() != 0 && r.Sign() != b.Sign() {
		q.Sub(q, big.NewInt(1))
		r.Add(r, b)
	}
	return q, r
}

func exactFloor(a, b *big.Int) *big.Int {
	q, _ := floorParts(a, b)
	return q
}

func exactCeil(a, b *big.Int) *big.Int {
	q, _ := floorParts(new(big.Int).Neg(a), b)
	if q == nil {
		return nil
	}
	return q.Neg(q)
}

func exactMod(a, b *big.Int) *big.Int {
	_, r := floorParts(a, b)
	return r
}

func TestSumsAndProductsAgainstExactOnes(t *testing.T) {
	compare(t, "Add", Add, func(a, b *big.Int) *big.Int { return new(big.Int).Add(a, b) })
	compare(t, "Sub", Sub, func(a, b *big.Int) *big.Int { return new(big.Int).Sub(a, b) })
	compare(t, "Mul", Mul, func(a, b *big.Int) *big.Int { return new(big.Int).Mul(a, b) })
}

func TestQuotientsAgainstExactOnes(t *testing.T) {
	compare(t, "FloorDiv", FloorDiv, exactFloor)
	compare(t, "CeilDiv", CeilDiv, exactCeil)
	compare(t, "Mod", Mod, exactMod)
}

// edge is a case whose result is written out.
type edge struct {
	a, b, n int64
	ok      bool
}

func checkEdges(t *testing.T, name string, f binary, list []edge) {
	t.Helper()
	for _, c := range list {
		if n, ok := f(c.a, c.b); n != c.n || ok != c.ok {
			t.Errorf("%s(%d, %d) = %d, %t, not %d, %t", name, c.a, c.b, n, ok, c.n, c.ok)
		}
	}
}

func TestSumAndProductEdges(t *testing.T) {
	checkEdges(t, "Add", Add, []edge{
		{2, 3, 5, true}, {2, -3, -1, true}, {0, 0, 0, true},
		{most, 0, most, true}, {0, most, most, true}, {most, 1, 0, false}, {1, most, 0, false}, {most, most, 0, false},
		{least, 0, least, true}, {least, -1, 0, false}, {-1, least, 0, false}, {least, least, 0, false}, {least, most, -1, true},
	})
	checkEdges(t, "Sub", Sub, []edge{
		{2, 3, -1, true}, {2, -3, 5, true}, {0, 0, 0, true},
		{0, most, -most, true}, {0, least, 0, false}, {-1, least, most, true}, {least, least, 0, true},
		{most, -1, 0, false}, {least, 1, 0, false}, {-2, most, 0, false}, {-1, most, least, true}, {most, least, 0, false},
	})
	checkEdges(t, "Mul", Mul, []edge{
		{6, 7, 42, true}, {-6, 7, -42, true}, {-6, -7, 42, true}, {0, least, 0, true}, {least, 0, 0, true},
		{3037000500, 3037000500, 0, false}, {3037000499, 3037000499, 9223372030926249001, true}, {-3037000500, 3037000500, 0, false},
		{least, -1, 0, false}, {-1, least, 0, false}, {least, 1, least, true}, {1, least, least, true}, {most, -1, -most, true},
		{1 << 31, -1 << 32, least, true}, {-1 << 31, 1 << 32, least, true}, {1 << 31, 1 << 32, 0, false}, {1 << 32, 1 << 32, 0, false},
		{least, least, 0, false}, {least, 2, 0, false}, {2, least, 0, false}, {most, most, 0, false},
	})
}

func TestQuotientEdges(t *testing.T) {
	checkEdges(t, "FloorDiv", FloorDiv, []edge{
		{7, 2, 3, true}, {-7, 2, -4, true}, {7, -2, -4, true}, {-7, -2, 3, true}, {-6, 2, -3, true}, {6, -2, -3, true}, {0, -5, 0, true},
		{7, 0, 0, false}, {0, 0, 0, false}, {least, 0, 0, false},
		{least, -1, 0, false}, {least + 1, -1, most, true}, {least, 1, least, true}, {-1, most, -1, true}, {1, least, -1, true}, {least, least, 1, true},
	})
	checkEdges(t, "CeilDiv", CeilDiv, []edge{
		{7, 2, 4, true}, {-7, 2, -3, true}, {7, -2, -3, true}, {-7, -2, 4, true}, {6, 2, 3, true}, {-6, -2, 3, true}, {0, -5, 0, true},
		{7, 0, 0, false}, {0, 0, 0, false}, {most, 0, 0, false},
		{least, -1, 0, false}, {least + 1, -1, most, true}, {least, 1, least, true}, {1, most, 1, true}, {-1, least, 1, true}, {-1, most, 0, true},
	})
	checkEdges(t, "Mod", Mod, []edge{
		{7, 2, 1, true}, {-7, 2, 1, true}, {7, -2, -1, true}, {-7, -2, -1, true}, {-6, 2, 0, true}, {6, -2, 0, true}, {0, -5, 0, true},
		{7, 0, 0, false}, {0, 0, 0, false}, {least, 0, 0, false},
		{least, -1, 0, true}, {least, 1, 0, true}, {-1, most, most - 1, true}, {least, most, most - 1, true}, {most, least, -1, true}, {1, least, least + 1, true},
	})
}

func TestPowEdges(t *testing.T) {
	for _, c := range []struct {
		a  int64
		n  int
		p  int64
		ok bool
	}{
		{0, 0, 1, true}, {0, 1, 0, true}, {0, 2, 0, true}, {0, math.MaxInt, 0, true},
		{1, 0, 1, true}, {1, math.MaxInt, 1, true}, {1, math.MaxInt - 1, 1, true},
		{-1, 0, 1, true}, {-1, 1, -1, true}, {-1, 2, 1, true}, {-1, math.MaxInt, -1, true}, {-1, math.MaxInt - 1, 1, true},
		{2, 10, 1024, true}, {2, 62, 1 << 62, true}, {2, 63, 0, false}, {2, 64, 0, false}, {2, math.MaxInt, 0, false},
		{-2, 63, least, true}, {-2, 64, 0, false}, {-2, 65, 0, false}, {-2, math.MaxInt, 0, false},
		{10, 18, 1000000000000000000, true}, {10, 19, 0, false},
		{3037000499, 2, 9223372030926249001, true}, {3037000500, 2, 0, false}, {-3037000500, 2, 0, false}, {1 << 32, 2, 0, false},
		{most, 0, 1, true}, {most, 1, most, true}, {most, 2, 0, false},
		{least, 0, 1, true}, {least, 1, least, true}, {least, 2, 0, false}, {least, math.MaxInt, 0, false},
		{3, -1, 0, false}, {0, -1, 0, false}, {1, -1, 0, false}, {-1, -2, 0, false}, {2, math.MinInt, 0, false}, {1, math.MinInt, 0, false},
	} {
		if p, ok := Pow(c.a, c.n); p != c.p || ok != c.ok {
			t.Errorf("Pow(%d, %d) = %d, %t, not %d, %t", c.a, c.n, p, ok, c.p, c.ok)
		}
	}
}

func TestPowAgainstExactPowers(t *testing.T) {
	for _, a := range samples() {
		exact := big.NewInt(1)
		for n := range 70 {
			want, wantOK := fit(exact)
			if p, ok := Pow(a, n); p != want || ok != wantOK {
				t.Fatalf("Pow(%d, %d) = %d, %t, not %d, %t", a, n, p, ok, want, wantOK)
			}
			exact.Mul(exact, big.NewInt(a))
		}
	}
}

func TestGcdEdges(t *testing.T) {
	for _, c := range []struct{ a, b, g int64 }{
		{12, 18, 6}, {18, 12, 6}, {5, 7, 1}, {9, 9, 9}, {1, most, 1},
		{0, 0, 0}, {7, 0, 7}, {0, 7, 7}, {most, 0, most}, {0, most, most}, {most, most, most}, {most, most - 1, 1},
		{7540113804746346429, 4660046610375530309, 1}, {1 << 62, 1 << 40, 1 << 40},
		{-6, 3, 0}, {6, -3, 0}, {-6, -3, 0}, {-1, 0, 0}, {0, -1, 0}, {least, 2, 0}, {2, least, 0}, {least, least, 0},
	} {
		if g := Gcd(c.a, c.b); g != c.g {
			t.Errorf("Gcd(%d, %d) = %d, not %d", c.a, c.b, g, c.g)
		}
	}
}

func TestGcdAgainstExactOne(t *testing.T) {
	list := samples()
	for _, a := range list {
		for _, b := range list {
			want := new(big.Int)
			if a >= 0 && b >= 0 {
				want.GCD(nil, nil, big.NewInt(a), big.NewInt(b))
			}
			if g := Gcd(a, b); g != want.Int64() {
				t.Fatalf("Gcd(%d, %d) = %d, not %d", a, b, g, want)
			}
		}
	}
}

func TestBits(t *testing.T) {
	for n, k := range map[int64]int{0: 0, 1: 1, 2: 2, 3: 2, 4: 3, 7: 3, 8: 4, 1<<62 - 1: 62, 1 << 62: 63, most: 63, -1: 0, -8: 0, least: 0} {
		if got := Bits(n); got != k {
			t.Errorf("Bits(%d) = %d, not %d", n, got, k)
		}
	}
	for _, n := range samples() {
		want := 0
		if n >= 0 {
			want = big.NewInt(n).BitLen()
		}
		if got := Bits(n); got != want {
			t.Errorf("Bits(%d) = %d, not %d", n, got, want)
		}
	}
}

func TestRootEdges(t *testing.T) {
	for n, r := range map[int64]int64{
		0: 0, 1: 1, 2: 1, 3: 1, 4: 2, 8: 2, 9: 3, 99: 9, 100: 10,
		1 << 62: 1 << 31, 1<<62 - 1: 1<<31 - 1,
		most: 3037000499, 9223372030926249001: 3037000499, 9223372030926249000: 3037000498,
		-1: 0, -4: 0, least: 0,
	} {
		if got := Root(n); got != r {
			t.Errorf("Root(%d) = %d, not %d", n, got, r)
		}
	}
}

func TestRootAgainstExactOne(t *testing.T) {
	list := samples()
	for n := range int64(2000) {
		list = append(list, n)
	}
	// The numbers around a square are those at which a root changes.
	for _, r := range samples() {
		if 0 < r && r <= 3037000499 {
			list = append(list, r*r-1, r*r, r*r+1)
		}
	}
	for _, n := range list {
		want := new(big.Int)
		if n >= 0 {
			want.Sqrt(big.NewInt(n))
		}
		if r := Root(n); r != want.Int64() {
			t.Errorf("Root(%d) = %d, not %d", n, r, want)
		}
	}
}
