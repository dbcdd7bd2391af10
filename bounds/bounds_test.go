package bounds

import (
	"math"
	"math/big"
	"math/rand"
	"testing"

	"windowpane/api"
)

const (
	least = math.MinInt64
	most  = math.MaxInt64
)

func q(n, d int64) api.Ratio { return api.Ratio{Num: n, Den: d} }

func answer(lo, est, hi api.Ratio) api.Bounds { return api.Bounds{Lo: lo, Est: est, Hi: hi} }

// span returns an answer with the estimate at its lower end.
func span(lo, hi api.Ratio) api.Bounds { return answer(lo, lo, hi) }

func whole(lo, est, hi int64) api.Bounds { return answer(q(lo, 1), q(est, 1), q(hi, 1)) }

// zero is what stands beside a false.
func zero() api.Bounds { return api.Bounds{} }

// exact returns a valid number as one of math/big, which the tests trust.
func exact(a api.Ratio) *big.Rat {
	return new(big.Rat).SetFrac(big.NewInt(a.Num), big.NewInt(a.Den))
}

// fit returns what a checked function returns for the exact result r.
func fit(r *big.Rat) (api.Ratio, bool) {
	if !r.Num().IsInt64() || !r.Denom().IsInt64() {
		return api.Ratio{}, false
	}
	return q(r.Num().Int64(), r.Denom().Int64()), true
}

func compare(a, b api.Ratio) int { return exact(a).Cmp(exact(b)) }

// samples returns valid numbers of all magnitudes, among them those with the greatest and least parts, and neighbours.
func samples() []api.Ratio {
	list := []api.Ratio{
		q(0, 1), q(1, 1), q(-1, 1), q(2, 1), q(-3, 1), q(9, 1), q(1, 2), q(-1, 2), q(1, 3), q(-2, 3), q(7, 6), q(-22, 7),
		q(most, 1), q(most-1, 1), q(-most, 1), q(least, 1), q(least, 3), q(least, most), q(most, 2), q(1<<62, 1), q(1<<32, 1<<31-1),
		q(1, most), q(1, most-1), q(-1, most), q(-1, most-1), q(most, most-1), q(most-1, most), q(most-2, most-1), q(-most, most-1), q(1, 1<<62), q(most, 1<<62), q(-7, 1<<62),
	}
	source := rand.New(rand.NewSource(6))
	for range 16 {
		list = append(list, sample(source))
	}
	return list
}

// sample returns a valid number whose parts have random magnitudes.
func sample(source *rand.Rand) api.Ratio {
	n := int64(source.Uint64()) >> source.Intn(64)
	d := int64(source.Uint64()>>1)>>source.Intn(63) | 1
	r := big.NewRat(n, d)
	return q(r.Num().Int64(), r.Denom().Int64())
}

// ordered returns the answer with a and b as its ends and, if it lies between them, est as its estimate.
func ordered(a, est, b api.Ratio) api.Bounds {
	if compare(a, b) > 0 {
		a, b = b, a
	}
	if compare(est, a) < 0 || compare(est, b) > 0 {
		est = b
	}
	return answer(a, est, b)
}

// answers returns valid answers with ends of all magnitudes.
func answers(count int) []api.Bounds {
	list, all := []api.Bounds{whole(0, 0, 0), whole(least, least, least), whole(least, -1, most), whole(most, most, most)}, samples()
	source := rand.New(rand.NewSource(7))
	for len(list) < count {
		list = append(list, ordered(all[source.Intn(len(all))], all[source.Intn(len(all))], all[source.Intn(len(all))]))
	}
	return list
}

// invalidRatios returns numbers that ratio.Valid refuses; the order of some of them would be right.
func invalidRatios() []api.Ratio {
	return []api.Ratio{q(0, 0), q(1, 0), q(-1, 0), q(most, 0), q(0, 2), q(0, -1), q(2, 4), q(-2, 4), q(4, 2), q(5, 5), q(1, -1), q(-1, -2), q(3, least), q(least, least), q(least, 2), q(most, most)}
}

// invalidAnswers returns answers with each field not valid in turn, and answers that are not in order.
func invalidAnswers() []api.Bounds {
	list := []api.Bounds{
		zero(), whole(1, 4, 3), whole(1, 0, 3), whole(3, 3, 1), whole(3, 1, 1), whole(3, 2, 1), whole(most, 0, least), whole(0, least, 0), whole(0, most, 0),
		answer(q(1, 2), q(1, 3), q(1, 1)), answer(q(1, 3), q(1, 1), q(1, 2)), answer(q(1, most-1), q(1, most), q(1, 1)), answer(q(0, 1), q(1, most-1), q(1, most)),
		answer(q(most-1, most), q(most-2, most-1), q(1, 1)), answer(q(-1, most), q(-1, most-1), q(0, 1)),
	}
	for _, bad := range invalidRatios() {
		list = append(list, answer(bad, q(1, 1), q(1, 1)), answer(q(0, 1), bad, q(1, 1)), answer(q(-1, 1), q(-1, 1), bad), answer(bad, bad, bad))
	}
	return list
}

func TestValid(t *testing.T) {
	for _, b := range append(answers(3000),
		whole(1, 2, 3), whole(1, 1, 3), whole(1, 3, 3), whole(-3, -2, -1), whole(least, 0, most), answer(q(1, 3), q(1, 2), q(2, 3)), answer(q(-1, 2), q(-1, 3), q(0, 1)),
		answer(q(1, most), q(1, most-1), q(1, most-2)), answer(q(least, 1), q(least, most), q(-1, 1)), answer(q(most-2, most-1), q(most-1, most), q(1, 1)),
	) {
		if !Valid(b) {
			t.Errorf("Valid(%v) is false", b)
		}
	}
	for _, b := range invalidAnswers() {
		if Valid(b) {
			t.Errorf("Valid(%v) is true", b)
		}
	}
}

func TestValidAgainstExactNumbers(t *testing.T) {
	list := samples()
	for _, lo := range list {
		for _, est := range list {
			for _, hi := range list[:20] {
				want := compare(lo, est) <= 0 && compare(est, hi) <= 0
				if b := answer(lo, est, hi); Valid(b) != want {
					t.Fatalf("Valid(%v) is %t", b, !want)
				}
			}
		}
	}
}

func TestExact(t *testing.T) {
	for _, v := range samples() {
		if b := Exact(v); b != answer(v, v, v) || !Valid(b) {
			t.Errorf("Exact(%v) = %v", v, b)
		}
	}
	for _, bad := range invalidRatios() {
		if b := Exact(bad); b != zero() {
			t.Errorf("Exact(%v) = %v", bad, b)
		}
	}
}

func TestWholeEdges(t *testing.T) {
	for _, c := range []struct{ lo, hi, est int64 }{
		{3, 6, 4}, {3, 7, 5}, {0, 0, 0}, {0, 1, 0}, {5, 5, 5}, {0, most, 1<<62 - 1},
		// Negative sums are rounded down, too.
		{-1, 0, -1}, {-6, -3, -5}, {-7, -3, -5}, {-5, 2, -2}, {-2, 5, 1}, {-1, 1, 0}, {-2, 1, -1}, {-5, -5, -5},
		// These sums are no int64.
		{most, most, most}, {most - 1, most, most - 1}, {most - 2, most, most - 1}, {1, most, 1 << 62}, {2, most, 1 << 62}, {3, most, 1<<62 + 1},
		{least, least, least}, {least, least + 1, least}, {least, least + 2, least + 1}, {least, -1, -1<<62 - 1}, {least, -2, -1<<62 - 1}, {least, -3, -1<<62 - 2},
		// These distances are no int64.
		{least, most, -1}, {least, most - 1, -1}, {least + 1, most, 0}, {least, 0, -1 << 62}, {least, 1, -1 << 62}, {-1, most, 1<<62 - 1}, {-2, most, 1<<62 - 2},
	} {
		if b, ok := Whole(c.lo, c.hi); b != whole(c.lo, c.est, c.hi) || !ok || !Valid(b) {
			t.Errorf("Whole(%d, %d) = %v, %t, not %d", c.lo, c.hi, b, ok, c.est)
		}
	}
	for _, c := range [][2]int64{{1, 0}, {0, -1}, {-3, -6}, {most, least}, {most, most - 1}, {least + 1, least}, {0, least}, {most, 0}} {
		if b, ok := Whole(c[0], c[1]); b != zero() || ok {
			t.Errorf("Whole(%d, %d) = %v, %t", c[0], c[1], b, ok)
		}
	}
}

func TestWholeAgainstExactNumbers(t *testing.T) {
	source := rand.New(rand.NewSource(8))
	for range 20000 {
		lo, hi := int64(source.Uint64())>>source.Intn(64), int64(source.Uint64())>>source.Intn(64)
		want, wantOK := zero(), lo <= hi
		if wantOK {
			s := new(big.Int).Add(big.NewInt(lo), big.NewInt(hi))
			want = whole(lo, s.Rsh(s, 1).Int64(), hi)
		}
		if b, ok := Whole(lo, hi); b != want || ok != wantOK {
			t.Fatalf("Whole(%d, %d) = %v, %t, not %v, %t", lo, hi, b, ok, want, wantOK)
		}
	}
}

func TestHoldsEdges(t *testing.T) {
	thirds := answer(q(-1, 3), q(0, 1), q(2, 3))
	narrow := span(q(1, most), q(1, most-2))
	for _, c := range []struct {
		b    api.Bounds
		v    api.Ratio
		want bool
	}{
		{whole(1, 2, 3), q(1, 1), true}, {whole(1, 2, 3), q(3, 1), true}, {whole(1, 2, 3), q(5, 2), true}, {whole(1, 2, 3), q(7, 2), false}, {whole(1, 2, 3), q(1, 2), false}, {whole(1, 2, 3), q(-2, 1), false},
		{whole(-3, -2, -1), q(-2, 1), true}, {whole(-3, -2, -1), q(-4, 1), false}, {whole(-3, -2, -1), q(0, 1), false}, {whole(5, 5, 5), q(5, 1), true}, {whole(5, 5, 5), q(4, 1), false}, {whole(5, 5, 5), q(6, 1), false},
		{thirds, q(-1, 3), true}, {thirds, q(2, 3), true}, {thirds, q(0, 1), true}, {thirds, q(-3, 8), false}, {thirds, q(3, 4), false},
		{whole(least, 0, most), q(least, 1), true}, {whole(least, 0, most), q(most, 1), true}, {whole(least, 0, most), q(1, most), true}, {whole(least, least, least), q(least+1, 1), false},
		{narrow, q(1, most-1), true}, {narrow, q(1, most), true}, {narrow, q(1, most-2), true}, {narrow, q(1, most-3), false}, {narrow, q(0, 1), false}, {span(q(1, most-1), q(1, 1)), q(1, most), false},
	} {
		if Holds(c.b, c.v) != c.want {
			t.Errorf("Holds(%v, %v) is %t", c.b, c.v, !c.want)
		}
	}
}

func TestHoldsAgainstExactNumbers(t *testing.T) {
	for _, b := range answers(1000) {
		for _, v := range samples() {
			want := compare(b.Lo, v) <= 0 && compare(v, b.Hi) <= 0
			if Holds(b, v) != want {
				t.Fatalf("Holds(%v, %v) is %t", b, v, !want)
			}
		}
	}
}

func TestQuestionsOfInvalidArguments(t *testing.T) {
	for _, bad := range invalidAnswers() {
		for _, v := range append(samples(), invalidRatios()...) {
			if Holds(bad, v) {
				t.Errorf("Holds(%v, %v) is true", bad, v)
			}
			if Within(bad, 1, v) {
				t.Errorf("Within(%v, 1, %v) is true", bad, v)
			}
		}
	}
	for _, bad := range invalidRatios() {
		for _, b := range answers(100) {
			if Holds(b, bad) {
				t.Errorf("Holds(%v, %v) is true", b, bad)
			}
			if Within(b, 1, bad) {
				t.Errorf("Within(%v, 1, %v) is true", b, bad)
			}
		}
	}
	for _, k := range []int{0, -1, -2, -most, least, least + 1} {
		for _, b := range answers(100) {
			for _, v := range samples() {
				if Within(b, k, v) {
					t.Errorf("Within(%v, %d, %v) is true", b, k, v)
				}
			}
		}
	}
}

// question is a call of Within with its result.
type question struct {
	b    api.Bounds
	k    int
	v    api.Ratio
	want bool
}

func checkWithin(t *testing.T, list []question) {
	t.Helper()
	for _, c := range list {
		if Within(c.b, c.k, c.v) != c.want {
			t.Errorf("Within(%v, %d, %v) is %t", c.b, c.k, c.v, !c.want)
		}
	}
}

func TestWithinEdges(t *testing.T) {
	sixth := span(q(1, 3), q(1, 2))
	checkWithin(t, []question{
		{whole(9, 9, 10), 9, q(9, 1), true}, {whole(9, 9, 10), 10, q(9, 1), false}, {whole(9, 10, 10), 9, q(9, 1), true},
		{whole(-1, 0, 1), 1, q(2, 1), true}, {whole(-1, 0, 1), 1, q(1, 1), false}, {whole(-3, -2, -1), 1, q(2, 1), true}, {whole(-3, -2, -1), 1, q(3, 2), false}, {whole(-3, -2, 0), 1, q(3, 1), true}, {whole(-3, -2, 0), 1, q(2, 1), false}, {whole(0, 1, 3), 2, q(6, 1), true}, {whole(0, 1, 3), 2, q(5, 1), false},
		{sixth, 1, q(1, 6), true}, {sixth, 2, q(1, 6), false}, {sixth, 6, q(1, 1), true}, {sixth, 7, q(1, 1), false},
		// The neighbours of 1/6.
		{sixth, 1, q(1537228672809129301, most), false}, {sixth, 1, q(1537228672809129301, most-2), true},
		// v = 0 takes a single number.
		{whole(5, 5, 5), 1, q(0, 1), true}, {whole(5, 5, 5), most, q(0, 1), true}, {whole(-5, -5, -5), 3, q(0, 1), true}, {whole(0, 0, 0), 3, q(0, 1), true}, {Exact(q(least, most)), most, q(0, 1), true}, {Exact(q(1, most)), most, q(1, most), true},
		{whole(5, 5, 6), 1, q(0, 1), false}, {whole(-1, 0, 0), 1, q(0, 1), false}, {whole(least, 0, most), 1, q(0, 1), false}, {span(q(1, most), q(1, most-1)), 1, q(0, 1), false}, {span(q(-1, most-1), q(-1, most)), 1, q(0, 1), false},
		// No interval is narrow against a negative number.
		{whole(5, 5, 5), 1, q(-1, 1), false}, {whole(-5, -5, -5), 1, q(-5, 1), false}, {whole(5, 5, 5), 1, q(-1, most), false}, {whole(5, 5, 5), most, q(least, 1), false}, {whole(5, 5, 9), 1, q(-4, 1), false}, {whole(least, least, -1), 1, q(least, 1), false},
	})
}

func TestWithinOfGreatNumbers(t *testing.T) {
	narrow := span(q(1, most), q(1, most-1))
	below := span(q(-1, most-1), q(-1, most))
	around := span(q(-1, most), q(1, most-1))
	checkWithin(t, []question{
		// These widths are no ratios with int64 parts.
		{whole(least, 0, most), 1, q(most, 1), false}, {whole(least, 0, 0), 1, q(most, 1), false}, {whole(least, 0, most), most, q(1, most), false}, {whole(least, -2, -1), 1, q(most, 1), true}, {whole(least, -2, -1), 1, q(most-1, 1), false}, {whole(0, 0, most), 1, q(most, 1), true}, {whole(1, 1, most), 1, q(most-1, 1), true}, {whole(1, 1, most), 2, q(most, 1), false},
		{narrow, 1, q(1, most), true}, {narrow, most - 1, q(1, most), true}, {narrow, most, q(1, most), false}, {narrow, most, q(1, most-1), true}, {narrow, most - 1, q(1, most-1), true},
		{below, most - 1, q(1, most), true}, {below, most, q(1, most), false}, {below, most, q(1, most-1), true},
		{around, 1, q(1, most), false}, {around, 1, q(2, most), false}, {around, 1, q(1, (most-1)/2), true}, {around, most, q(2, 1), false}, {around, most, q(3, 1), true}, {around, most - 1, q(2, 1), true},
		{span(q(least, most), q(1, 1)), 1, q(2, 1), false}, {span(q(least, most), q(1, 1)), 1, q(3, 1), true}, {span(q(most-1, most), q(most, most-1)), 1 << 61, q(1, 2), false}, {span(q(most-1, most), q(most, most-1)), 1 << 61, q(1, 1), true},
		// The left side has 250 bits, and without its first word it would be the lesser one.
		{span(q(least, most), q(1<<62, most-30)), 1 << 62, q(1<<62-1, 1<<62), false}, {span(q(least, most), q(1<<62, most-30)), 1 << 62, q(most, 1<<62), false},
		// The right side has 189 bits.
		{span(q(most-1, most), q(most, most-1)), 1, q(most, 1), true}, {narrow, most, q(most, 1), true},
	})
}

// narrowEnough returns what Within returns for valid arguments.
func narrowEnough(b api.Bounds, k int, v api.Ratio) bool { return times(b, k).Cmp(exact(v)) <= 0 }

// times returns k (Hi - Lo).
func times(b api.Bounds, k int) *big.Rat {
	r := new(big.Rat).Sub(exact(b.Hi), exact(b.Lo))
	return r.Mul(r, new(big.Rat).SetInt64(int64(k)))
}

func TestWithinAgainstExactNumbers(t *testing.T) {
	seen := map[bool]int{}
	for _, b := range answers(600) {
		for _, k := range []int{1, 2, 3, 64, 1<<32 + 1, 1 << 62, most - 1, most} {
			for _, v := range samples() {
				want := narrowEnough(b, k, v)
				if Within(b, k, v) != want {
					t.Fatalf("Within(%v, %d, %v) is %t", b, k, v, !want)
				}
				seen[want]++
			}
		}
	}
	if seen[true] < 1000 || seen[false] < 1000 {
		t.Errorf("the results are too much alike: %v", seen)
	}
}

// limited returns the greatest number of steps by c that leads from a to at most 2^63 - 1, but no more than n; a negative n means that there is no other limit.
func limited(n, a, c *big.Int) *big.Int {
	if c.Sign() == 0 {
		return n
	}
	room := new(big.Int).Sub(big.NewInt(most), a)
	room.Quo(room, c)
	if n.Sign() < 0 || room.Cmp(n) < 0 {
		return room
	}
	return n
}

// fraction is a / b; that of 1 and 0 stands for infinity.
type fraction struct{ a, b *big.Int }

func (f fraction) plus(n *big.Int, g fraction) fraction {
	a, b := new(big.Int).Mul(n, g.a), new(big.Int).Mul(n, g.b)
	return fraction{a.Add(a, f.a), b.Add(b, f.b)}
}

func (f fraction) ratio() api.Ratio { return q(f.a.Int64(), f.b.Int64()) }

// gap returns f.a * s - f.b * r.
func (f fraction) gap(r, s *big.Int) *big.Int {
	x, y := new(big.Int).Mul(f.a, s), new(big.Int).Mul(f.b, r)
	return x.Sub(x, y)
}

// neighbours returns the greatest number with int64 parts that is at most r, and the least one that is greater, by the tree of Stern and Brocot. The latter is 1 / 0 if there is none; r is not negative.
func neighbours(r *big.Rat) (api.Ratio, api.Ratio) {
	one := big.NewInt(1)
	lo, hi := fraction{big.NewInt(0), one}, fraction{one, big.NewInt(0)}
	for {
		below, above := lo.gap(r.Num(), r.Denom()), hi.gap(r.Num(), r.Denom())
		up := new(big.Int).Quo(below.Neg(below), above)
		up = limited(limited(up, lo.a, hi.a), lo.b, hi.b)
		lo = lo.plus(up, hi)
		down := big.NewInt(-1)
		if below = lo.gap(r.Num(), r.Denom()); below.Sign() != 0 {
			// The quotient is rounded up, and one step less keeps hi greater than r.
			down.Quo(above.Sub(above, one), below.Neg(below))
		}
		down = limited(limited(down, hi.a, lo.a), hi.b, lo.b)
		hi = hi.plus(down, lo)
		if up.Sign() == 0 && down.Sign() == 0 {
			return lo.ratio(), hi.ratio()
		}
	}
}

func TestNeighbours(t *testing.T) {
	for _, c := range []struct {
		r      *big.Rat
		lo, hi api.Ratio
	}{
		{big.NewRat(0, 1), q(0, 1), q(1, most)}, {big.NewRat(1, 6), q(1, 6), q(1537228672809129301, most-2)}, {big.NewRat(most, 1), q(most, 1), q(1, 0)},
		{new(big.Rat).SetFrac64(1, 1<<62), q(1, 1<<62), q(2, most)}, {times(whole(least, 0, most), 1), q(most, 1), q(1, 0)}, {times(whole(0, 0, 1), 5), q(5, 1), q((most/5)*5+1, most/5)},
	} {
		if lo, hi := neighbours(c.r); lo != c.lo || hi != c.hi {
			t.Errorf("neighbours(%v) = %v, %v, not %v, %v", c.r, lo, hi, c.lo, c.hi)
		}
	}
}

// checkNeighbours asks for the two numbers between which the result changes, and reports whether both sides can be equal.
func checkNeighbours(t *testing.T, b api.Bounds, k int) bool {
	t.Helper()
	r := times(b, k)
	lo, hi := neighbours(r)
	equal := exact(lo).Cmp(r) == 0
	list := []question{{b, k, lo, equal}}
	if hi.Den != 0 {
		list = append(list, question{b, k, hi, true})
	}
	if equal && r.Sign() > 0 {
		// This is far less than the distance of two numbers with int64 parts.
		tiny := new(big.Rat).SetFrac(big.NewInt(1), new(big.Int).Lsh(big.NewInt(1), 200))
		before, _ := neighbours(tiny.Sub(r, tiny))
		list = append(list, question{b, k, before, false})
	}
	checkWithin(t, list)
	return equal
}

func TestWithinWhereTheResultChanges(t *testing.T) {
	source := rand.New(rand.NewSource(9))
	const rounds = 4000
	equal := 0
	for i := range rounds {
		b, k := ordered(sample(source), sample(source), sample(source)), int(source.Uint64()>>(1+source.Intn(63)))+1
		if k < 1 {
			k = most
		}
		if i%2 == 0 {
			// Small denominators, so that the width often is a ratio with int64 parts.
			n, d := int64(int32(source.Uint64()))>>source.Intn(32), int64(source.Intn(1000)+1)
			a, _ := fit(big.NewRat(n, d))
			c, _ := fit(big.NewRat(n+int64(source.Intn(1000)), d+int64(source.Intn(10))))
			b, k = ordered(a, a, c), k%5000+1
		}
		if checkNeighbours(t, b, k) {
			equal++
		}
		if t.Failed() {
			return
		}
	}
	// Otherwise the numbers would try only one of the two cases.
	if equal < rounds/10 || equal > rounds*9/10 {
		t.Errorf("both sides can be equal in %d of %d cases", equal, rounds)
	}
}

// pair is a call of Add or Meet with its results.
type pair struct {
	a, b, want api.Bounds
	ok         bool
}

func checkPairs(t *testing.T, name string, f func(a, b api.Bounds) (api.Bounds, bool), list []pair) {
	t.Helper()
	for _, c := range list {
		if got, ok := f(c.a, c.b); got != c.want || ok != c.ok {
			t.Errorf("%s(%v, %v) = %v, %t, not %v, %t", name, c.a, c.b, got, ok, c.want, c.ok)
		}
	}
}

func TestAddEdges(t *testing.T) {
	checkPairs(t, "Add", Add, []pair{
		{whole(1, 2, 3), whole(-5, 0, 4), whole(-4, 2, 7), true}, {whole(0, 0, 0), whole(1, 2, 3), whole(1, 2, 3), true}, {whole(-3, -2, -1), whole(1, 2, 3), whole(-2, 0, 2), true},
		{answer(q(1, 6), q(1, 2), q(2, 3)), answer(q(1, 3), q(1, 2), q(1, 1)), answer(q(1, 2), q(1, 1), q(5, 3)), true},
		// Lo, Est and Hi just fit, or each of them alone just does not.
		{whole(least+1, 0, 0), whole(-1, 0, 0), whole(least, 0, 0), true}, {whole(least, 0, 0), whole(-1, 0, 0), zero(), false},
		{whole(0, 0, most-1), whole(0, 0, 1), whole(0, 0, most), true}, {whole(0, 0, most), whole(0, 0, 1), zero(), false}, {whole(1, 2, most), whole(0, 0, 1), zero(), false},
		{whole(least, least, most), whole(0, 0, 0), whole(least, least, most), true}, {whole(least, least, least), whole(most, most, most), whole(-1, -1, -1), true},
		{whole(0, 0, most), whole(0, 0, most), zero(), false}, {whole(least, 0, 0), whole(least, 0, 0), zero(), false}, {whole(least, least, least), whole(-1, -1, -1), zero(), false}, {whole(most, most, most), whole(1, 1, 1), zero(), false},
		{answer(q(0, 1), q(1, most), q(1, 1)), answer(q(0, 1), q(1, most-1), q(1, 1)), zero(), false}, {answer(q(0, 1), q(1, most), q(1, 1)), answer(q(0, 1), q(1, most), q(1, 1)), answer(q(0, 1), q(2, most), q(2, 1)), true},
		{span(q(1, most), q(1, 1)), span(q(1, 2), q(1, 1)), zero(), false}, {span(q(0, 1), q(1, 1<<62)), span(q(0, 1), q(1, 3)), zero(), false}, {span(q(0, 1), q(1, 1<<62)), span(q(0, 1), q(1, 1<<62)), span(q(0, 1), q(1, 1<<61)), true},
		// These sums fit only in lowest terms.
		{Exact(q(most, 2)), Exact(q(most, 2)), whole(most, most, most), true}, {Exact(q(least, 3)), Exact(q(-1, 3)), whole(-3074457345618258603, -3074457345618258603, -3074457345618258603), true},
	})
}

// sums returns what Add returns for valid answers.
func sums(a, b api.Bounds) (api.Bounds, bool) {
	add := func(x, y api.Ratio) (api.Ratio, bool) { return fit(new(big.Rat).Add(exact(x), exact(y))) }
	lo, first := add(a.Lo, b.Lo)
	est, second := add(a.Est, b.Est)
	hi, third := add(a.Hi, b.Hi)
	if !first || !second || !third {
		return zero(), false
	}
	return answer(lo, est, hi), true
}

// common returns what Meet returns for valid answers.
func common(a, b api.Bounds) (api.Bounds, bool) {
	r := a
	if compare(b.Lo, r.Lo) > 0 {
		r.Lo = b.Lo
	}
	if compare(b.Hi, r.Hi) < 0 {
		r.Hi = b.Hi
	}
	switch {
	case compare(r.Lo, r.Hi) > 0:
		return zero(), false
	case compare(r.Est, r.Lo) < 0:
		r.Est = r.Lo
	case compare(r.Est, r.Hi) > 0:
		r.Est = r.Hi
	}
	return r, true
}

func TestCombinationsAgainstExactNumbers(t *testing.T) {
	list := answers(400)
	seen := map[string]int{}
	for _, a := range list {
		for _, b := range list {
			want, wantOK := sums(a, b)
			got, ok := Add(a, b)
			if got != want || ok != wantOK {
				t.Fatalf("Add(%v, %v) = %v, %t, not %v, %t", a, b, got, ok, want, wantOK)
			}
			if ok {
				seen["sum"]++
			}
			want, wantOK = common(a, b)
			got, ok = Meet(a, b)
			if got != want || ok != wantOK || ok && !Valid(got) {
				t.Fatalf("Meet(%v, %v) = %v, %t, not %v, %t", a, b, got, ok, want, wantOK)
			}
			if ok {
				seen["meeting"]++
			}
		}
	}
	if all := len(list) * len(list); seen["sum"] < all/50 || seen["sum"] > all*9/10 || seen["meeting"] < all/50 || seen["meeting"] > all*9/10 {
		t.Errorf("the results are too much alike: %v of %d", seen, all)
	}
}

func TestMeetEdges(t *testing.T) {
	ends := answer(q(1, most), q(1, most-1), q(1, most-2))
	checkPairs(t, "Meet", Meet, []pair{
		// Est of a is below, in, or above what is left.
		{whole(0, 2, 4), whole(3, 6, 9), whole(3, 3, 4), true}, {whole(3, 6, 9), whole(0, 2, 4), whole(3, 4, 4), true}, {whole(0, 5, 9), whole(1, 1, 8), whole(1, 5, 8), true}, {whole(0, 0, 9), whole(2, 7, 8), whole(2, 2, 8), true}, {whole(0, 9, 9), whole(2, 3, 8), whole(2, 8, 8), true},
		{whole(0, 3, 4), whole(3, 6, 9), whole(3, 3, 4), true}, {whole(3, 4, 9), whole(0, 2, 4), whole(3, 4, 4), true}, {whole(2, 3, 4), whole(0, 0, 9), whole(2, 3, 4), true}, {whole(2, 3, 4), whole(2, 4, 4), whole(2, 3, 4), true}, {whole(-9, -8, -3), whole(-5, -4, 0), whole(-5, -5, -3), true},
		// One number in common.
		{whole(0, 1, 2), whole(2, 2, 5), whole(2, 2, 2), true}, {whole(2, 4, 5), whole(0, 1, 2), whole(2, 2, 2), true}, {whole(0, 5, 9), whole(7, 7, 7), whole(7, 7, 7), true}, {whole(7, 7, 7), whole(0, 5, 9), whole(7, 7, 7), true}, {whole(7, 7, 7), whole(7, 7, 7), whole(7, 7, 7), true}, {whole(0, 1, most), whole(most, most, most), whole(most, most, most), true}, {whole(least, 0, 0), whole(least, least, least), whole(least, least, least), true},
		{span(q(0, 1), q(1, 3)), span(q(1, 3), q(1, 1)), Exact(q(1, 3)), true},
		// None in common.
		{whole(0, 1, 2), whole(3, 3, 5), zero(), false}, {whole(3, 3, 5), whole(0, 1, 2), zero(), false}, {whole(7, 7, 7), whole(8, 8, 8), zero(), false}, {whole(least, least, -1), whole(0, 0, most), zero(), false}, {whole(-2, -2, -1), whole(1, 1, 2), zero(), false},
		{span(q(0, 1), q(1, most)), span(q(1, most-1), q(1, 1)), zero(), false}, {span(q(most-1, most), q(1, 1)), span(q(0, 1), q(most-2, most-1)), zero(), false},
		// Ends that differ only in the last bits.
		{ends, span(q(0, 1), q(1, most-1)), answer(q(1, most), q(1, most-1), q(1, most-1)), true}, {ends, span(q(1, most-1), q(1, 1)), answer(q(1, most-1), q(1, most-1), q(1, most-2)), true}, {ends, Exact(q(1, most-2)), Exact(q(1, most-2)), true}, {ends, Exact(q(1, most)), Exact(q(1, most)), true},
	})
}

func TestCombinationsOfInvalidAnswers(t *testing.T) {
	for _, bad := range invalidAnswers() {
		for _, other := range append(invalidAnswers(), whole(0, 0, 0), whole(1, 2, 3), whole(least, 0, most)) {
			checkPairs(t, "Add", Add, []pair{{bad, other, zero(), false}, {other, bad, zero(), false}})
			checkPairs(t, "Meet", Meet, []pair{{bad, other, zero(), false}, {other, bad, zero(), false}})
		}
	}
}
