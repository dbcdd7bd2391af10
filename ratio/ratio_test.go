package ratio

import (
	"math"
	"math/big"
	"math/rand"
	"testing"

	"windowpane/api"
)

const (
	least = math.MinInt64
	most  = math.MaxInt64
)

type binary func(a, b api.Ratio) (api.Ratio, bool)

func q(n, d int64) api.Ratio { return api.Ratio{Num: n, Den: d} }

// zero is what stands beside a false.
func zero() api.Ratio { return api.Ratio{} }

// wholes returns numbers of all magnitudes, among them the ends of int64, the powers of two and their neighbours, and divisors of the ends.
func wholes() []int64 {
	list := []int64{0, 5, -5, 6, -6, 7, -7, 9, -9, least, least + 1, least + 2, most, most - 1, most - 2, 1317624576693539401, -1317624576693539401}
	for _, k := range []int{0, 1, 2, 3, 20, 30, 31, 32, 33, 61, 62} {
		p := int64(1) << k
		list = append(list, p-1, p, p+1, -p-1, -p, -p+1)
	}
	source := rand.New(rand.NewSource(3))
	for range 12 {
		n := int64(source.Uint64() >> source.Intn(64))
		list = append(list, n, -n)
	}
	return list
}

// exact returns n / d as a number of math/big, which the tests trust; d is not 0.
func exact(n, d int64) *big.Rat { return new(big.Rat).SetFrac(big.NewInt(n), big.NewInt(d)) }

// fit returns what a checked function returns for the exact result r.
func fit(r *big.Rat) (api.Ratio, bool) {
	if r == nil || !r.Num().IsInt64() || !r.Denom().IsInt64() {
		return zero(), false
	}
	return q(r.Num().Int64(), r.Denom().Int64()), true
}

// samples returns valid numbers of all magnitudes.
func samples() []api.Ratio {
	seen := map[api.Ratio]bool{}
	var list []api.Ratio
	keep := func(n, d int64) {
		if a, ok := fit(exact(n, d)); ok && !seen[a] {
			seen[a] = true
			list = append(list, a)
		}
	}
	source := rand.New(rand.NewSource(4))
	all := wholes()
	for _, n := range all {
		keep(n, 1)
		for _, d := range []int64{2, 3, most, 1 << 62, all[source.Intn(len(all))]} {
			if d != 0 {
				keep(n, d)
			}
		}
		if n != 0 {
			keep(1, n)
		}
	}
	return list
}

// smooth returns a product of small factors and a few great ones, at least 1.
func smooth(source *rand.Rand) int64 {
	factors := []int64{2, 2, 2, 3, 3, 5, 7, 73, 127, 337, 65537, 92737, 649657, 1<<31 - 1}
	p := int64(1)
	for range source.Intn(10) {
		f := factors[source.Intn(len(factors))]
		if p > most/f {
			break
		}
		p *= f
	}
	return p
}

// alike returns a number whose parts have common divisors with those of others, so that results often fit although the intermediate ones need more than 64 bits.
func alike(source *rand.Rand) api.Ratio {
	sign := int64(1 - 2*source.Intn(2))
	a, _ := fit(exact(sign*smooth(source), smooth(source)))
	return a
}

// invalids returns numbers that are not valid: the denominator is 0 or negative, or the parts have a common divisor.
func invalids() []api.Ratio {
	return []api.Ratio{
		q(0, 0), q(1, 0), q(-1, 0), q(most, 0), q(least, 0),
		q(1, -1), q(0, -1), q(-3, -2), q(3, -2), q(1, least), q(-1, least), q(least, -1), q(least, least), q(most, -most), q(most, least),
		q(0, 2), q(0, most), q(2, 4), q(-2, 4), q(4, 2), q(-6, 3), q(5, 5), q(-5, 5), q(most, most), q(-most, most), q(most, 7), q(7, most), q(least, 2), q(least, 1<<62), q(least, 6), q(1<<62, 1<<62),
	}
}

func TestValid(t *testing.T) {
	for _, a := range []api.Ratio{
		q(0, 1), q(1, 1), q(-1, 1), q(7, 1), q(-3, 2), q(3, 2), q(1, 2), q(8, 9), q(-9, 8), q(2, 9),
		q(most, 1), q(least, 1), q(1, most), q(-1, most), q(least, most), q(most, most-1), q(least, 3), q(least+1, 1<<62), q(-7, 1<<62),
	} {
		if !Valid(a) {
			t.Errorf("Valid(%v) is false", a)
		}
	}
	for _, a := range invalids() {
		if Valid(a) {
			t.Errorf("Valid(%v) is true", a)
		}
	}
}

func TestValidAgainstExactNumbers(t *testing.T) {
	all := wholes()
	for _, n := range all {
		for _, d := range all {
			a := q(n, d)
			want := false
			if d != 0 {
				lowest, ok := fit(exact(n, d))
				want = ok && lowest == a
			}
			if Valid(a) != want {
				t.Fatalf("Valid(%v) is %t", a, !want)
			}
		}
	}
}

func TestMakeEdges(t *testing.T) {
	for _, c := range []struct {
		num, den int64
		want     api.Ratio
		ok       bool
	}{
		{6, -4, q(-3, 2), true}, {6, 4, q(3, 2), true}, {-6, -4, q(3, 2), true}, {-6, 4, q(-3, 2), true}, {5, 1, q(5, 1), true}, {1, 5, q(1, 5), true},
		{0, 1, q(0, 1), true}, {0, -1, q(0, 1), true}, {0, 7, q(0, 1), true}, {0, most, q(0, 1), true}, {0, least, q(0, 1), true},
		{0, 0, zero(), false}, {1, 0, zero(), false}, {-1, 0, zero(), false}, {most, 0, zero(), false}, {least, 0, zero(), false},
		{least, -1, zero(), false}, {least, 1, q(least, 1), true}, {least, 2, q(-1<<62, 1), true}, {least, -2, q(1<<62, 1), true},
		{least, 3, q(least, 3), true}, {least, -3, zero(), false}, {least, -6, q(1<<62, 3), true}, {least, most, q(least, most), true}, {least, -most, zero(), false},
		{least, least, q(1, 1), true}, {1, least, zero(), false}, {-1, least, zero(), false}, {2, least, q(-1, 1<<62), true}, {-2, least, q(1, 1<<62), true},
		{3, least, zero(), false}, {most, least, zero(), false}, {-most, least, zero(), false}, {most - 1, least, q(-(most-1)/2, 1<<62), true}, {1 << 62, least, q(-1, 2), true},
		{most, 1, q(most, 1), true}, {most, -1, q(-most, 1), true}, {-most, -1, q(most, 1), true}, {1, most, q(1, most), true}, {1, -most, q(-1, most), true},
		{most, most, q(1, 1), true}, {-most, most, q(-1, 1), true}, {7, most, q(1, 1317624576693539401), true}, {most, 7, q(1317624576693539401, 1), true},
	} {
		if a, ok := Make(c.num, c.den); a != c.want || ok != c.ok {
			t.Errorf("Make(%d, %d) = %v, %t, not %v, %t", c.num, c.den, a, ok, c.want, c.ok)
		}
	}
}

func TestMakeAgainstExactNumbers(t *testing.T) {
	all := wholes()
	for _, n := range all {
		for _, d := range all {
			want, wantOK := zero(), false
			if d != 0 {
				want, wantOK = fit(exact(n, d))
			}
			if a, ok := Make(n, d); a != want || ok != wantOK {
				t.Fatalf("Make(%d, %d) = %v, %t, not %v, %t", n, d, a, ok, want, wantOK)
			}
		}
	}
}

func TestOf(t *testing.T) {
	for _, n := range wholes() {
		if a := Of(n); a != q(n, 1) || !Valid(a) {
			t.Errorf("Of(%d) = %v", n, a)
		}
	}
}

// operation is a function on two numbers with the exact one; a nil result means that there is none.
type operation struct {
	name  string
	f     binary
	exact func(a, b *big.Rat) *big.Rat
}

func operations() []operation {
	return []operation{
		{"Add", Add, func(a, b *big.Rat) *big.Rat { return new(big.Rat).Add(a, b) }},
		{"Sub", Sub, func(a, b *big.Rat) *big.Rat { return new(big.Rat).Sub(a, b) }},
		{"Mul", Mul, func(a, b *big.Rat) *big.Rat { return new(big.Rat).Mul(a, b) }},
		{"Div", Div, func(a, b *big.Rat) *big.Rat {
			if b.Sign() == 0 {
				return nil
			}
			return new(big.Rat).Quo(a, b)
		}},
	}
}

// check compares one call with the exact result and reports whether there is one that fits.
func (o operation) check(t *testing.T, a, b api.Ratio) bool {
	t.Helper()
	want, wantOK := fit(o.exact(exact(a.Num, a.Den), exact(b.Num, b.Den)))
	got, ok := o.f(a, b)
	if got != want || ok != wantOK {
		t.Fatalf("%s(%v, %v) = %v, %t, not %v, %t", o.name, a, b, got, ok, want, wantOK)
	}
	if ok && !Valid(got) {
		t.Fatalf("%s(%v, %v) = %v is not valid", o.name, a, b, got)
	}
	return ok
}

func TestArithmeticAgainstExactNumbers(t *testing.T) {
	list := samples()
	for _, o := range operations() {
		for _, a := range list {
			for _, b := range list {
				o.check(t, a, b)
			}
		}
	}
}

func TestArithmeticOfNumbersThatCancel(t *testing.T) {
	for _, o := range operations() {
		source := rand.New(rand.NewSource(5))
		fitting := 0
		const rounds = 20000
		for range rounds {
			a, b := alike(source), alike(source)
			if o.check(t, a, b) {
				fitting++
			}
		}
		// Otherwise the numbers would try only one of the two outcomes.
		if fitting < rounds/20 || fitting > rounds*19/20 {
			t.Errorf("%s: %d of %d results fit", o.name, fitting, rounds)
		}
	}
}

// edge is a case whose result is written out.
type edge struct {
	a, b, want api.Ratio
	ok         bool
}

func checkEdges(t *testing.T, name string, f binary, list []edge) {
	t.Helper()
	for _, c := range list {
		if got, ok := f(c.a, c.b); got != c.want || ok != c.ok {
			t.Errorf("%s(%v, %v) = %v, %t, not %v, %t", name, c.a, c.b, got, ok, c.want, c.ok)
		}
	}
}

func TestSumEdges(t *testing.T) {
	checkEdges(t, "Add", Add, []edge{
		{q(1, 6), q(1, 3), q(1, 2), true}, {q(-1, 2), q(-1, 3), q(-5, 6), true},
		{q(1, 2), q(-1, 2), q(0, 1), true}, {q(-1, 3), q(1, 3), q(0, 1), true}, {q(0, 1), q(0, 1), q(0, 1), true},
		{q(most, 1), q(0, 1), q(most, 1), true}, {q(most-1, 1), q(1, 1), q(most, 1), true}, {q(most, 1), q(1, 1), zero(), false}, {q(most, 1), q(most, 1), zero(), false},
		{q(least, 1), q(0, 1), q(least, 1), true}, {q(least+1, 1), q(-1, 1), q(least, 1), true}, {q(least, 1), q(-1, 1), zero(), false}, {q(least, 1), q(least, 1), zero(), false},
		{q(least, 1), q(most, 1), q(-1, 1), true},
		// 2^63 / 3 fits only if it is negative.
		{q(-most, 3), q(-1, 3), q(least, 3), true}, {q(most, 3), q(1, 3), zero(), false},
		// These numerators fit only in lowest terms.
		{q(least, 3), q(-1, 3), q(-3074457345618258603, 1), true}, {q(most, 2), q(most, 2), q(most, 1), true}, {q(most, 4), q(3, 4), q(1<<62+1, 2), true},
		{q(least, 3), q(least, 3), zero(), false}, {q(least, most), q(least, most), zero(), false},
		// Great denominators.
		{q(1, 1<<62), q(1, 1<<62), q(1, 1<<61), true}, {q(1, most), q(most-1, most), q(1, 1), true}, {q(least, most), q(1, most), q(-1, 1), true},
		{q(1, 1<<62), q(1, 3), zero(), false}, {q(1, most), q(1, most-1), zero(), false}, {q(-1, most), q(most, 1), zero(), false},
		{q(1, 7), q(-1, most), q(1317624576693539400, most), true}, {q(1, 1<<31), q(1, 1<<32-1), q(6442450943, 9223372034707292160), true},
	})
	checkEdges(t, "Sub", Sub, []edge{
		{q(1, 2), q(1, 3), q(1, 6), true}, {q(1, 3), q(1, 2), q(-1, 6), true}, {q(1, 2), q(-1, 2), q(1, 1), true},
		{q(1, 2), q(1, 2), q(0, 1), true}, {q(0, 1), q(0, 1), q(0, 1), true}, {q(least, 1), q(least, 1), q(0, 1), true}, {q(least, most), q(least, most), q(0, 1), true},
		{q(0, 1), q(least, 1), zero(), false}, {q(-1, 1), q(least, 1), q(most, 1), true}, {q(least, 1), q(0, 1), q(least, 1), true}, {q(least, 1), q(1, 1), zero(), false},
		{q(0, 1), q(most, 1), q(-most, 1), true}, {q(-1, 1), q(most, 1), q(least, 1), true}, {q(-2, 1), q(most, 1), zero(), false}, {q(most, 1), q(least, 1), zero(), false},
		{q(0, 1), q(least, 3), zero(), false}, {q(-1, 3), q(least, 3), q(most, 3), true}, {q(1, 3), q(least, 3), q(3074457345618258603, 1), true}, {q(-most, 3), q(1, 3), q(least, 3), true},
		{q(1, 1<<62), q(-1, 1<<62), q(1, 1<<61), true}, {q(1, most), q(1, most-1), zero(), false}, {q(1, 7), q(1, most), q(1317624576693539400, most), true},
	})
}

func TestProductEdges(t *testing.T) {
	checkEdges(t, "Mul", Mul, []edge{
		{q(2, 3), q(-3, 4), q(-1, 2), true}, {q(-2, 3), q(-3, 4), q(1, 2), true}, {q(2, 3), q(3, 2), q(1, 1), true}, {q(2, 3), q(1, 5), q(2, 15), true},
		{q(0, 1), q(1, most), q(0, 1), true}, {q(least, 1), q(0, 1), q(0, 1), true}, {q(0, 1), q(0, 1), q(0, 1), true}, {q(0, 1), q(-1, 2), q(0, 1), true},
		{q(least, 1), q(1, 1), q(least, 1), true}, {q(least, 1), q(-1, 1), zero(), false}, {q(-1, 1), q(least, 1), zero(), false}, {q(most, 1), q(-1, 1), q(-most, 1), true}, {q(most, 1), q(2, 1), zero(), false},
		{q(1<<31, 1), q(-1<<32, 1), q(least, 1), true}, {q(1<<31, 1), q(1<<32, 1), zero(), false}, {q(-1<<31, 3), q(1<<32, 5), q(least, 15), true},
		{q(1, 1<<31), q(1, 1<<31), q(1, 1<<62), true}, {q(1, 1<<31), q(1, 1<<32), zero(), false}, {q(1, 7), q(1, 1317624576693539401), q(1, most), true}, {q(1, most), q(1, 2), zero(), false},
		// The products of the parts need up to 126 bits.
		{q(most, 2), q(2, most), q(1, 1), true}, {q(least, most), q(most, 1<<62), q(-2, 1), true}, {q(most, 1<<62), q(1<<62, most), q(1, 1), true}, {q(least, 3), q(-3, 1<<62), q(2, 1), true},
		{q(least, 1), q(least, 1), zero(), false}, {q(least, most), q(least, most), zero(), false}, {q(most, 1<<62), q(most, 1<<62), zero(), false}, {q(1, most), q(1, most), zero(), false},
	})
	checkEdges(t, "Div", Div, []edge{
		{q(1, 2), q(-3, 4), q(-2, 3), true}, {q(-1, 2), q(-3, 4), q(2, 3), true}, {q(1, 2), q(3, 4), q(2, 3), true}, {q(7, 1), q(2, 1), q(7, 2), true},
		{q(0, 1), q(5, 1), q(0, 1), true}, {q(0, 1), q(-5, 3), q(0, 1), true}, {q(0, 1), q(least, 1), q(0, 1), true},
		{q(1, 2), q(0, 1), zero(), false}, {q(0, 1), q(0, 1), zero(), false}, {q(-1, 1), q(0, 1), zero(), false}, {q(least, 1), q(0, 1), zero(), false},
		{q(least, 1), q(-1, 1), zero(), false}, {q(least, 1), q(1, 1), q(least, 1), true}, {q(least, 1), q(least, 1), q(1, 1), true}, {q(least, 3), q(least, 5), q(5, 3), true},
		{q(1, 1), q(least, 1), zero(), false}, {q(2, 1), q(least, 1), q(-1, 1<<62), true}, {q(-2, 1), q(least, 1), q(1, 1<<62), true}, {q(1, 2), q(least, 1), zero(), false}, {q(most, 1), q(least, 1), zero(), false},
		{q(-2, 1), q(1, 1<<62), q(least, 1), true}, {q(2, 1), q(-1, 1<<62), q(least, 1), true}, {q(2, 1), q(1, 1<<62), zero(), false}, {q(-2, 1), q(-1, 1<<62), zero(), false},
		{q(most, 2), q(most, 4), q(2, 1), true}, {q(most, 2), q(most, 3), q(3, 2), true}, {q(1, most), q(1, most), q(1, 1), true}, {q(1, most), q(most, 1), zero(), false}, {q(1, most), q(-1, 1<<62), q(-1<<62, most), true},
	})
}

func TestArithmeticOfInvalidNumbers(t *testing.T) {
	valid := []api.Ratio{q(0, 1), q(1, 1), q(-3, 2), q(least, 1), q(1, most)}
	for _, bad := range invalids() {
		for _, o := range operations() {
			for _, other := range append(invalids(), valid...) {
				if got, ok := o.f(bad, other); got != zero() || ok {
					t.Errorf("%s(%v, %v) = %v, %t", o.name, bad, other, got, ok)
				}
				if got, ok := o.f(other, bad); got != zero() || ok {
					t.Errorf("%s(%v, %v) = %v, %t", o.name, other, bad, got, ok)
				}
			}
		}
	}
}

func TestCompareEdges(t *testing.T) {
	for _, c := range []struct {
		a, b api.Ratio
		want int
	}{
		{q(1, 3), q(1, 2), -1}, {q(1, 2), q(1, 3), 1}, {q(-1, 3), q(-1, 2), 1}, {q(-1, 2), q(-1, 3), -1}, {q(-1, 2), q(1, 3), -1},
		{q(5, 1), q(5, 1), 0}, {q(-5, 7), q(-5, 7), 0}, {q(0, 1), q(0, 1), 0}, {q(0, 1), q(1, most), -1}, {q(0, 1), q(-1, most), 1},
		{q(least, 1), q(most, 1), -1}, {q(most, 1), q(least, 1), 1}, {q(least, 1), q(least, 1), 0}, {q(least, 1), q(least, most), -1}, {q(least, most), q(-1, 1), -1},
		// The products of these differ only in the last of more than 64 bits.
		{q(most, most-1), q(most-1, most-2), -1}, {q(most-1, most), q(most-2, most-1), 1}, {q(1, most), q(1, most-1), -1}, {q(-1, most), q(-1, most-1), 1},
	} {
		if got := Compare(c.a, c.b); got != c.want {
			t.Errorf("Compare(%v, %v) = %d, not %d", c.a, c.b, got, c.want)
		}
	}
}

func TestCompareAgainstExactNumbers(t *testing.T) {
	list := samples()
	for _, a := range list {
		for _, b := range list {
			want := exact(a.Num, a.Den).Cmp(exact(b.Num, b.Den))
			if got := Compare(a, b); got != want {
				t.Fatalf("Compare(%v, %v) = %d, not %d", a, b, got, want)
			}
		}
	}
}

func TestCompareOfInvalidNumbers(t *testing.T) {
	for _, bad := range invalids() {
		for _, other := range append(invalids(), q(0, 1), q(1, 9), q(-7, 3), q(least, 1), q(most, 1)) {
			if got := Compare(bad, other); got != 0 {
				t.Errorf("Compare(%v, %v) = %d", bad, other, got)
			}
			if got := Compare(other, bad); got != 0 {
				t.Errorf("Compare(%v, %v) = %d", other, bad, got)
			}
		}
	}
}

func TestFloorAndCeilEdges(t *testing.T) {
	for _, c := range []struct {
		a           api.Ratio
		floor, ceil int64
	}{
		{q(-3, 2), -2, -1}, {q(3, 2), 1, 2}, {q(-1, 2), -1, 0}, {q(1, 2), 0, 1}, {q(-7, 3), -3, -2}, {q(7, 3), 2, 3},
		{q(0, 1), 0, 0}, {q(4, 1), 4, 4}, {q(-4, 1), -4, -4}, {q(most, 1), most, most}, {q(least, 1), least, least},
		{q(1, most), 0, 1}, {q(-1, most), -1, 0}, {q(least, most), -2, -1}, {q(most, most-1), 1, 2}, {q(-most, most-1), -2, -1},
		{q(most, 2), 1<<62 - 1, 1 << 62}, {q(-most, 2), -1 << 62, -1<<62 + 1}, {q(least, 3), -3074457345618258603, -3074457345618258602},
	} {
		if floor, ceil := Floor(c.a), Ceil(c.a); floor != c.floor || ceil != c.ceil {
			t.Errorf("Floor and Ceil of %v = %d, %d, not %d, %d", c.a, floor, ceil, c.floor, c.ceil)
		}
	}
	for _, bad := range invalids() {
		if floor, ceil := Floor(bad), Ceil(bad); floor != 0 || ceil != 0 {
			t.Errorf("Floor and Ceil of %v = %d, %d", bad, floor, ceil)
		}
	}
}

func TestFloorAndCeilAgainstExactNumbers(t *testing.T) {
	for _, a := range samples() {
		n, d := big.NewInt(a.Num), big.NewInt(a.Den)
		// Div of math/big rounds down for a divisor that is not negative.
		floor := new(big.Int).Div(n, d).Int64()
		ceil := -new(big.Int).Div(new(big.Int).Neg(n), d).Int64()
		if Floor(a) != floor || Ceil(a) != ceil {
			t.Errorf("Floor and Ceil of %v = %d, %d, not %d, %d", a, Floor(a), Ceil(a), floor, ceil)
		}
	}
}
