package wide

import (
	"math"
	"math/big"
	"math/rand"
	"strings"
	"testing"

	"windowpane/api"
)

const (
	top   = math.MaxUint64
	least = math.MinInt64
	most  = math.MaxInt64
)

func words(hi, lo uint64) api.Wide { return api.Wide{Hi: hi, Lo: lo} }

// toBig returns a as a number of math/big, which the tests trust.
func toBig(a api.Wide) *big.Int {
	n := new(big.Int).SetUint64(a.Hi)
	return n.Add(n.Lsh(n, 64), new(big.Int).SetUint64(a.Lo))
}

// fit returns what a checked function returns for the exact result n.
func fit(n *big.Int) (api.Wide, bool) {
	if n.Sign() < 0 || n.BitLen() > 128 {
		return api.Wide{}, false
	}
	lo := new(big.Int).And(n, new(big.Int).SetUint64(top))
	return words(new(big.Int).Rsh(n, 64).Uint64(), lo.Uint64()), true
}

func fromBig(t *testing.T, n *big.Int) api.Wide {
	t.Helper()
	a, ok := fit(n)
	if !ok {
		t.Fatalf("%s does not fit", n)
	}
	return a
}

// samples returns numbers of all magnitudes, among them 0, the powers of two and their neighbours, and the ends of the words.
func samples() []api.Wide {
	list := []api.Wide{{}, words(0, 10), words(top, 0), words(top, top-1), words(1, 1), words(1<<63, 1), words(1<<63, top), words(1<<62, 7)}
	for k := range 129 {
		p := new(big.Int).Lsh(big.NewInt(1), uint(k))
		for d := int64(-1); d <= 1; d++ {
			if n, ok := fit(new(big.Int).Add(p, big.NewInt(d))); ok {
				list = append(list, n)
			}
		}
	}
	source := rand.New(rand.NewSource(2))
	for range 150 {
		n := words(source.Uint64(), source.Uint64())
		list = append(list, Right(n, source.Intn(128)))
	}
	return list
}

// compareAll checks a checked function for all pairs of samples against the exact result.
func compareAll(t *testing.T, name string, f func(a, b api.Wide) (api.Wide, bool), exact func(a, b *big.Int) *big.Int) {
	t.Helper()
	list := samples()
	for _, a := range list {
		for _, b := range list {
			want, wantOK := fit(exact(toBig(a), toBig(b)))
			if got, ok := f(a, b); got != want || ok != wantOK {
				t.Fatalf("%s(%v, %v) = %v, %t, not %v, %t", name, a, b, got, ok, want, wantOK)
			}
		}
	}
}

func TestOf(t *testing.T) {
	for _, n := range []uint64{0, 1, 7, 1 << 63, top} {
		if got := Of(n); got != words(0, n) {
			t.Errorf("Of(%d) = %v", n, got)
		}
	}
}

func TestChecked(t *testing.T) {
	compareAll(t, "Add", Add, func(a, b *big.Int) *big.Int { return new(big.Int).Add(a, b) })
	compareAll(t, "Sub", Sub, func(a, b *big.Int) *big.Int { return new(big.Int).Sub(a, b) })
	compareAll(t, "Mul", Mul, func(a, b *big.Int) *big.Int { return new(big.Int).Mul(a, b) })
}

func TestCheckedEdges(t *testing.T) {
	for i, c := range []struct {
		f    func(a, b api.Wide) (api.Wide, bool)
		a, b api.Wide
		want api.Wide
		ok   bool
	}{
		{Add, words(0, top), words(0, 1), words(1, 0), true},
		{Add, words(top, 0), words(0, top), words(top, top), true},
		{Add, words(top, top), words(0, 0), words(top, top), true},
		{Add, words(top, top), words(0, 1), words(0, 0), false},
		{Add, words(1<<63, 0), words(1<<63, 0), words(0, 0), false},
		{Add, words(top, top), words(top, top), words(0, 0), false},
		{Sub, words(1, 0), words(0, 1), words(0, top), true},
		{Sub, words(top, top), words(top, top), words(0, 0), true},
		{Sub, words(0, 0), words(0, 1), words(0, 0), false},
		{Sub, words(1, 0), words(1, 1), words(0, 0), false},
		{Sub, words(0, top), words(1, 0), words(0, 0), false},
		{Mul, words(0, 0), words(top, top), words(0, 0), true},
		{Mul, words(top, top), words(0, 1), words(top, top), true},
		{Mul, words(1, 1), words(0, top), words(top, top), true},
		{Mul, words(0, top), words(1, 1), words(top, top), true},
		{Mul, words(1, 0), words(1, 0), words(0, 0), false},
		{Mul, words(1, 0), words(0, top), words(top, 0), true},
		{Mul, words(1<<63, 0), words(0, 2), words(0, 0), false},
		{Mul, words(0, 2), words(1<<63, 0), words(0, 0), false},
		// The product of the low words carries into a high word that is full.
		{Mul, words(1, 2), words(0, top), words(0, 0), false},
	} {
		if got, ok := c.f(c.a, c.b); got != c.want || ok != c.ok {
			t.Errorf("case %d: %v, %t, not %v, %t", i, got, ok, c.want, c.ok)
		}
	}
}

func TestProduct(t *testing.T) {
	if got := Product(top, top); got != words(top-1, 1) {
		t.Errorf("Product of the greatest words = %v", got)
	}
	list := samples()
	for _, a := range list {
		for _, b := range list {
			want := fromBig(t, new(big.Int).Mul(toBig(Of(a.Lo)), toBig(Of(b.Lo))))
			if got := Product(a.Lo, b.Lo); got != want {
				t.Fatalf("Product(%d, %d) = %v, not %v", a.Lo, b.Lo, got, want)
			}
		}
	}
}

func TestPow(t *testing.T) {
	for _, a := range samples() {
		for n := range 140 {
			// The exact power of a great base would take long, and any base of at least 2 has overflowed by then.
			want, wantOK := api.Wide{}, false
			if a.Lo <= 1 || n <= 128 {
				want, wantOK = fit(new(big.Int).Exp(toBig(Of(a.Lo)), big.NewInt(int64(n)), nil))
			}
			if got, ok := Pow(a.Lo, n); got != want || ok != wantOK {
				t.Fatalf("Pow(%d, %d) = %v, %t, not %v, %t", a.Lo, n, got, ok, want, wantOK)
			}
		}
	}
}

func TestPowEdges(t *testing.T) {
	for _, c := range []struct {
		a    uint64
		n    int
		want api.Wide
		ok   bool
	}{
		{0, 0, words(0, 1), true},
		{top, 0, words(0, 1), true},
		{0, 1, words(0, 0), true},
		{0, math.MaxInt, words(0, 0), true},
		{1, math.MaxInt, words(0, 1), true},
		{2, 127, words(1<<63, 0), true},
		{2, 128, words(0, 0), false},
		{2, math.MaxInt, words(0, 0), false},
		{1 << 32, 3, words(1<<32, 0), true},
		{1 << 32, 4, words(0, 0), false},
		{top, 1, words(0, top), true},
		{top, 2, words(top-1, 1), true},
		{top, 3, words(0, 0), false},
		{0, -1, words(0, 0), false},
		{1, -1, words(0, 0), false},
		{5, -1, words(0, 0), false},
		{5, math.MinInt, words(0, 0), false},
	} {
		if got, ok := Pow(c.a, c.n); got != c.want || ok != c.ok {
			t.Errorf("Pow(%d, %d) = %v, %t, not %v, %t", c.a, c.n, got, ok, c.want, c.ok)
		}
	}
}

// checkDiv compares one division with the exact one.
func checkDiv(t *testing.T, a, b api.Wide) {
	t.Helper()
	var wantQ, wantR api.Wide
	if b != (api.Wide{}) {
		q, r := new(big.Int).QuoRem(toBig(a), toBig(b), new(big.Int))
		wantQ, wantR = fromBig(t, q), fromBig(t, r)
	}
	q, r, ok := Div(a, b)
	if q != wantQ || r != wantR || ok != (b != api.Wide{}) {
		t.Fatalf("Div(%v, %v) = %v, %v, %t, not %v, %v", a, b, q, r, ok, wantQ, wantR)
	}
}

func TestDiv(t *testing.T) {
	list := samples()
	for _, a := range list {
		for _, b := range list {
			checkDiv(t, a, b)
		}
	}
}

// The quotients of multiples and their neighbours are where an estimate is too great or too small.
func TestDivNearMultiples(t *testing.T) {
	list := samples()
	for _, b := range list {
		for _, q := range list {
			p, ok := Mul(b, q)
			if !ok {
				continue
			}
			checkDiv(t, p, b)
			if more, ok := Add(p, Of(1)); ok {
				checkDiv(t, more, b)
			}
			if less, ok := Sub(p, Of(1)); ok {
				checkDiv(t, less, b)
			}
		}
	}
}

func TestDivByZero(t *testing.T) {
	for _, a := range []api.Wide{{}, words(0, 5), words(top, top)} {
		if q, r, ok := Div(a, api.Wide{}); q != (api.Wide{}) || r != (api.Wide{}) || ok {
			t.Errorf("Div(%v, 0) = %v, %v, %t", a, q, r, ok)
		}
	}
}

func TestCompare(t *testing.T) {
	list := samples()
	for _, a := range list {
		for _, b := range list {
			if got, want := Compare(a, b), toBig(a).Cmp(toBig(b)); got != want {
				t.Fatalf("Compare(%v, %v) = %d, not %d", a, b, got, want)
			}
		}
	}
	for _, c := range []struct {
		a, b api.Wide
		want int
	}{
		{words(0, 0), words(0, 0), 0},
		{words(0, top), words(1, 0), -1},
		{words(1, 0), words(0, top), 1},
		{words(3, 4), words(3, 5), -1},
		{words(top, top), words(top, top), 0},
		{words(top, top), words(0, 0), 1},
	} {
		if got := Compare(c.a, c.b); got != c.want {
			t.Errorf("Compare(%v, %v) = %d, not %d", c.a, c.b, got, c.want)
		}
	}
}

func TestShifts(t *testing.T) {
	for _, a := range samples() {
		for n := range 200 {
			want, wantOK := fit(new(big.Int).Lsh(toBig(a), uint(n)))
			if got, ok := Left(a, n); got != want || ok != wantOK {
				t.Fatalf("Left(%v, %d) = %v, %t, not %v, %t", a, n, got, ok, want, wantOK)
			}
			if got, want := Right(a, n), fromBig(t, new(big.Int).Rsh(toBig(a), uint(n))); got != want {
				t.Fatalf("Right(%v, %d) = %v, not %v", a, n, got, want)
			}
		}
	}
}

func TestLeftEdges(t *testing.T) {
	for _, c := range []struct {
		a    api.Wide
		n    int
		want api.Wide
		ok   bool
	}{
		{words(0, 0), 0, words(0, 0), true},
		{words(0, 0), 128, words(0, 0), true},
		{words(0, 0), math.MaxInt, words(0, 0), true},
		{words(0, 0), -1, words(0, 0), false},
		{words(0, 0), math.MinInt, words(0, 0), false},
		{words(0, 5), -1, words(0, 0), false},
		{words(0, 5), math.MinInt, words(0, 0), false},
		{words(0, 1), 64, words(1, 0), true},
		{words(0, 1), 127, words(1<<63, 0), true},
		{words(0, 1), 128, words(0, 0), false},
		{words(0, 1), math.MaxInt, words(0, 0), false},
		{words(0, 3), 126, words(3<<62, 0), true},
		{words(0, 3), 127, words(0, 0), false},
		{words(0, 1<<63|1), 1, words(1, 2), true},
		{words(top, top), 0, words(top, top), true},
		{words(top, top), 1, words(0, 0), false},
		{words(top>>1, top), 1, words(top, top-1), true},
	} {
		if got, ok := Left(c.a, c.n); got != c.want || ok != c.ok {
			t.Errorf("Left(%v, %d) = %v, %t, not %v, %t", c.a, c.n, got, ok, c.want, c.ok)
		}
	}
}

func TestRightEdges(t *testing.T) {
	for _, c := range []struct {
		a    api.Wide
		n    int
		want api.Wide
	}{
		{words(top, top), 0, words(top, top)},
		{words(top, top), 64, words(0, top)},
		{words(top, top), 127, words(0, 1)},
		{words(top, top), 128, words(0, 0)},
		{words(top, top), math.MaxInt, words(0, 0)},
		{words(top, top), -1, words(0, 0)},
		{words(top, top), math.MinInt, words(0, 0)},
		{words(1, 2), 1, words(0, 1<<63|1)},
		{words(0, 0), 5, words(0, 0)},
	} {
		if got := Right(c.a, c.n); got != c.want {
			t.Errorf("Right(%v, %d) = %v, not %v", c.a, c.n, got, c.want)
		}
	}
}

func TestBitsAndZeros(t *testing.T) {
	for _, a := range samples() {
		if got, want := Bits(a), toBig(a).BitLen(); got != want {
			t.Errorf("Bits(%v) = %d, not %d", a, got, want)
		}
		if got, want := Zeros(a), int(toBig(a).TrailingZeroBits()); got != want {
			t.Errorf("Zeros(%v) = %d, not %d", a, got, want)
		}
	}
	for _, c := range []struct {
		a           api.Wide
		bits, zeros int
	}{
		{words(0, 0), 0, 0},
		{words(0, 1), 1, 0},
		{words(0, 12), 4, 2},
		{words(0, top), 64, 0},
		{words(0, 1<<63), 64, 63},
		{words(1, 0), 65, 64},
		{words(8, 12), 68, 2},
		{words(1<<63, 0), 128, 127},
		{words(top, top), 128, 0},
	} {
		if Bits(c.a) != c.bits || Zeros(c.a) != c.zeros {
			t.Errorf("Bits, Zeros of %v = %d, %d, not %d, %d", c.a, Bits(c.a), Zeros(c.a), c.bits, c.zeros)
		}
	}
}

func TestGcd(t *testing.T) {
	list := samples()
	for _, a := range list {
		for _, b := range list {
			want := fromBig(t, new(big.Int).GCD(nil, nil, toBig(a), toBig(b)))
			if got := Gcd(a, b); got != want {
				t.Fatalf("Gcd(%v, %v) = %v, not %v", a, b, got, want)
			}
		}
	}
	for _, c := range []struct{ a, b, want api.Wide }{
		{words(0, 0), words(0, 0), words(0, 0)},
		{words(top, top), words(0, 0), words(top, top)},
		{words(0, 0), words(top, top), words(top, top)},
		{words(top, top), words(top, top), words(top, top)},
		{words(6, 0), words(4, 0), words(2, 0)},
		{words(0, 12), words(0, 18), words(0, 6)},
		{words(top, top), words(0, top), words(0, top)},
	} {
		if got := Gcd(c.a, c.b); got != c.want {
			t.Errorf("Gcd(%v, %v) = %v, not %v", c.a, c.b, got, c.want)
		}
	}
}

// Neighbouring Fibonacci numbers take Euclid's algorithm the most steps.
func TestGcdOfFibonacciNumbers(t *testing.T) {
	a, b := big.NewInt(1), big.NewInt(1)
	for b.BitLen() <= 128 {
		if got := Gcd(fromBig(t, b), fromBig(t, a)); got != Of(1) {
			t.Fatalf("Gcd(%s, %s) = %v", b, a, got)
		}
		a, b = b, new(big.Int).Add(a, b)
	}
}

func TestFormatAndParse(t *testing.T) {
	list := samples()
	for n := range 39 {
		p := new(big.Int).Exp(big.NewInt(10), big.NewInt(int64(n)), nil)
		list = append(list, fromBig(t, p), fromBig(t, new(big.Int).Sub(p, big.NewInt(1))))
	}
	for _, a := range list {
		s := toBig(a).String()
		if got := Format(a); got != s {
			t.Errorf("Format(%v) = %q, not %q", a, got, s)
		}
		if got, ok := Parse(s); got != a || !ok {
			t.Errorf("Parse(%q) = %v, %t, not %v, true", s, got, ok, a)
		}
	}
}

func TestTextEdges(t *testing.T) {
	for _, c := range []struct {
		a api.Wide
		s string
	}{
		{words(0, 0), "0"},
		{words(0, 10), "10"},
		{words(0, top), "18446744073709551615"},
		{words(1, 0), "18446744073709551616"},
		{words(top, top), "340282366920938463463374607431768211455"},
	} {
		if got := Format(c.a); got != c.s {
			t.Errorf("Format(%v) = %q, not %q", c.a, got, c.s)
		}
		if got, ok := Parse(c.s); got != c.a || !ok {
			t.Errorf("Parse(%q) = %v, %t, not %v, true", c.s, got, ok, c.a)
		}
	}
}

func TestParseRefuses(t *testing.T) {
	for _, s := range []string{
		"", "00", "007", "01", "-1", "-0", "+1", "+0", " 1", "1 ", "1 0", "1\n", "\x00", "1\x00", "a", "1a", "a1", "0x1", "1e3", "1_0", "1.0", ".", "/", ":", "1/", "1:",
		"\u0661", "\uff11", "\xff",
		"340282366920938463463374607431768211456",
		"340282366920938463463374607431768211460",
		"999999999999999999999999999999999999999",
		"1000000000000000000000000000000000000000",
		"3402823669209384634633746074317682114550",
		"0340282366920938463463374607431768211455",
		// 2^128 + 5 and 2^192: they wrap around to 5 and 0.
		"340282366920938463463374607431768211461",
		"6277101735386680763835789423207666416102355444464034512896",
		strings.Repeat("0", 1000), strings.Repeat("9", 1000000),
	} {
		if got, ok := Parse(s); got != (api.Wide{}) || ok {
			t.Errorf("Parse(%.50q) = %v, %t", s, got, ok)
		}
	}
}

// Every single byte but a digit is refused, alone and inside a number.
func TestParseBytes(t *testing.T) {
	for c := range 256 {
		isDigit := '0' <= c && c <= '9'
		for _, s := range []string{string([]byte{byte(c)}), string([]byte{'1', byte(c), '2'})} {
			if _, ok := Parse(s); ok != isDigit {
				t.Errorf("Parse(%q) reports %t", s, ok)
			}
		}
	}
}

func crossSamples() []int64 {
	list := []int64{0, 1, -1, 2, -2, 3, -3, 5, 7, 1 << 31, -1 << 31, 1 << 32, -1 << 32, 1 << 62, -1 << 62, most, most - 1, least, least + 1, -most + 1}
	source := rand.New(rand.NewSource(4))
	for range 20 {
		n := int64(source.Uint64() >> source.Intn(64))
		list = append(list, n, -n)
	}
	return list
}

func TestCross(t *testing.T) {
	type pair struct {
		a, b    int64
		product *big.Int
	}
	var pairs []pair
	list := crossSamples()
	for _, a := range list {
		for _, b := range list {
			pairs = append(pairs, pair{a, b, new(big.Int).Mul(big.NewInt(a), big.NewInt(b))})
		}
	}
	for _, p := range pairs {
		for _, q := range pairs {
			if got, want := Cross(p.a, p.b, q.a, q.b), p.product.Cmp(q.product); got != want {
				t.Fatalf("Cross(%d, %d, %d, %d) = %d, not %d", p.a, p.b, q.a, q.b, got, want)
			}
		}
	}
}

func TestCrossEdges(t *testing.T) {
	for _, c := range []struct {
		a, b, c, d int64
		want       int
	}{
		{least, -1, 1 << 62, 2, 0},
		{least, least, most, most, 1},
		{most, most, least, least, -1},
		{least, least, least, least, 0},
		{least, most, most, least, 0},
		{least, most, least, least, -1},
		{least, most, most, -most, -1},
		{least, 1, most, -1, -1},
		{0, least, most, 0, 0},
		{0, least, -1, least, -1},
		{0, most, least, 1, 1},
		{-3, 5, -2, 7, -1},
		{-2, 7, -3, 5, 1},
		{-2, 7, -7, 2, 0},
	} {
		if got := Cross(c.a, c.b, c.c, c.d); got != c.want {
			t.Errorf("Cross(%d, %d, %d, %d) = %d, not %d", c.a, c.b, c.c, c.d, got, c.want)
		}
	}
}
