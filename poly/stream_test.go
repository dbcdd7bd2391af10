package poly

import (
	"math/big"
	"math/rand"
	"slices"
	"testing"

	"windowpane/api"
	"windowpane/exact"
)

// stream is a counter with all items that were added.
type stream struct {
	x     api.Poly
	items []api.Item
}

// newStream returns an empty stream with these parameters.
func newStream(t *testing.T, p int, now int64) *stream {
	t.Helper()
	x, err := New(p, now)
	if err != api.OK {
		t.Fatalf("New(%d, %d) = %d", p, now, err)
	}
	return &stream{x: x}
}

// check holds the moments and the answer against the items.
func (s *stream) check(t *testing.T) {
	t.Helper()
	if Validate(s.x) != api.OK || !valid(s.x) {
		t.Fatalf("after %d items, %v is not valid", len(s.items), s.x)
	}
	for j, m := range s.x.Moments {
		if want := truth(s.items, s.x.Land, j); largeOf(m).Cmp(want) != 0 {
			t.Fatalf("the moment %d of %v is not %v", j, s.x, want)
		}
		if want, ok := exact.Poly(s.items, s.x.Land, j); !ok || m != want {
			t.Fatalf("the moment %d of %v is not %v, %t", j, s.x, want, ok)
		}
	}
	f, err := Ask(s.x)
	if err != api.OK || largeOf(f.Num).Cmp(truth(s.items, s.x.Land, s.x.P)) != 0 || largeOf(f.Den).Cmp(powerOf(s.x.Now-s.x.Land+1, s.x.P)) != 0 {
		t.Fatalf("Ask(%v) = %v, %d", s.x, f, err)
	}
}

// checkWeights holds the answer against the values, each times its weight.
func (s *stream) checkWeights(t *testing.T) {
	t.Helper()
	sum := new(big.Rat)
	for _, item := range s.items {
		weight := big.NewRat(1, 1)
		for range s.x.P {
			weight.Mul(weight, big.NewRat(item.T-s.x.Land+1, s.x.Now-s.x.Land+1))
		}
		sum.Add(sum, weight.Mul(weight, big.NewRat(item.V, 1)))
	}
	f, err := Ask(s.x)
	if err != api.OK || sum.Cmp(new(big.Rat).SetFrac(largeOf(f.Num), largeOf(f.Den))) != 0 {
		t.Fatalf("Ask(%v) = %v, %d, not %v", s.x, f, err, sum)
	}
}

// add, advance, rebase and merge compare a call with that of the model and go on with its result.
func (s *stream) add(t *testing.T, v int64) {
	t.Helper()
	if checkAdd(t, s.x, v) != api.OK {
		t.Fatalf("%v does not take %d", s.x, v)
	}
	s.x, _ = Add(s.x, v)
	s.items = append(slices.Clone(s.items), api.Item{T: s.x.Now, V: v})
}

func (s *stream) advance(t *testing.T, now int64) {
	t.Helper()
	if checkAdvance(t, s.x, now) != api.OK {
		t.Fatalf("%v does not advance to %d", s.x, now)
	}
	s.x, _ = Advance(s.x, now)
}

func (s *stream) rebase(t *testing.T, land int64) {
	t.Helper()
	if checkRebase(t, s.x, land) != api.OK {
		t.Fatalf("%v has no landmark %d", s.x, land)
	}
	s.x, _ = Rebase(s.x, land)
}

func (s *stream) merge(t *testing.T, other *stream) {
	t.Helper()
	if checkMerge(t, s.x, other.x) != api.OK {
		t.Fatalf("%v and %v are not merged", s.x, other.x)
	}
	s.x, _ = Merge(s.x, other.x)
	s.items = slices.Concat(s.items, other.items)
}

// drawn returns a value: 0, the greatest one, a small one, or any.
func drawn(source *rand.Rand) int64 {
	return []int64{0, highest, 1 + source.Int63n(9), source.Int63n(highest + 1)}[source.Intn(4)]
}

// TestStreams adds values, moves the clock and the landmark at random.
func TestStreams(t *testing.T) {
	source := rand.New(rand.NewSource(32))
	wide := 0
	for round := range 200 {
		start := []int64{0, 1, source.Int63n(100), last - 200, source.Int63n(last)}[source.Intn(5)]
		s := newStream(t, round%(steep+1), start)
		for range 60 {
			switch source.Intn(10) {
			case 0, 1:
				s.advance(t, min(last, s.x.Now+source.Int63n(3)))
			case 2:
				s.advance(t, s.x.Now+source.Int63n(last-s.x.Now+1)/(1+source.Int63n(1000)))
			case 3:
				s.rebase(t, s.x.Land-min(s.x.Land, source.Int63n(4)))
			case 4:
				if source.Intn(5) == 0 {
					s.rebase(t, s.x.Land-source.Int63n(s.x.Land+1))
				}
			default:
				s.add(t, drawn(source))
			}
			s.check(t)
			s.checkWeights(t)
		}
		if s.x.Moments[s.x.P].Hi > 0 {
			wide++
		}
	}
	if wide < 30 {
		t.Errorf("only %d streams have a moment of two words", wide)
	}
}

// TestGreatestStream has the greatest values at the greatest ages.
func TestGreatestStream(t *testing.T) {
	for p := 0; p <= steep; p++ {
		s := newStream(t, p, 0)
		s.advance(t, last-1)
		for range 50 {
			s.add(t, highest)
		}
		s.advance(t, last)
		for range 50 {
			s.add(t, highest)
		}
		s.check(t)
		s.checkWeights(t)
		late := newStream(t, p, last)
		late.add(t, highest)
		late.check(t)
		late.rebase(t, 0)
		late.check(t)
		late.checkWeights(t)
		s.merge(t, late)
		s.check(t)
	}
}

// TestSmallStreams makes all short sequences of calls.
func TestSmallStreams(t *testing.T) {
	var extend func(s stream, depth int)
	extend = func(s stream, depth int) {
		s.check(t)
		s.checkWeights(t)
		if depth == 0 {
			return
		}
		for _, call := range []func(s *stream){func(s *stream) { s.add(t, 0) }, func(s *stream) { s.add(t, 3) }, func(s *stream) { s.advance(t, s.x.Now+1) }, func(s *stream) { s.advance(t, s.x.Now+5) }, func(s *stream) { s.rebase(t, max(0, s.x.Land-1)) }, func(s *stream) { s.merge(t, &stream{x: s.x, items: s.items}) }} {
			next := s
			call(&next)
			extend(next, depth-1)
		}
	}
	for p := 0; p <= steep; p++ {
		extend(*newStream(t, p, 2), 4)
	}
}

// TestShrinkingWeights checks that an item that arrives now has the weight 1, and that the weights shrink in the same proportion.
func TestShrinkingWeights(t *testing.T) {
	ratioOf := func(x api.Poly) *big.Rat {
		f, err := Ask(x)
		if err != api.OK {
			t.Fatalf("Ask(%v) = %d", x, err)
		}
		return new(big.Rat).SetFrac(largeOf(f.Num), largeOf(f.Den))
	}
	for p := 0; p <= steep; p++ {
		early, late := newStream(t, p, 3), newStream(t, p, 3)
		early.advance(t, 5)
		early.add(t, 700)
		late.advance(t, 9)
		late.add(t, 500)
		if got := ratioOf(early.x); got.Cmp(big.NewRat(700, 1)) != 0 {
			t.Errorf("an item of now and the value 700 counts %v", got)
		}
		before, shares := ratioOf(early.x), map[string]bool{}
		for _, now := range []int64{9, 10, 11, 100, 1000, last} {
			early.advance(t, now)
			late.advance(t, now)
			a, b := ratioOf(early.x), ratioOf(late.x)
			if less := a.Cmp(before) < 0; less != (p > 0) || b.Cmp(big.NewRat(500, 1)) > 0 {
				t.Errorf("p %d: at %d, the weights do not shrink: %v, %v", p, now, a, b)
			}
			before = a
			shares[new(big.Rat).Quo(a, b).String()] = true
		}
		if len(shares) != 1 {
			t.Errorf("p %d: the proportions of the weights are %v", p, shares)
		}
	}
}

// TestSplitStreams deals the items of a stream out to counters with landmarks of their own, and merges these in any order.
func TestSplitStreams(t *testing.T) {
	source := rand.New(rand.NewSource(33))
	for round := range 300 {
		p := round % (steep + 1)
		start := []int64{0, 3, last / 2, last - 40}[source.Intn(4)]
		whole := newStream(t, p, start)
		parts := []*stream{newStream(t, p, start)}
		for range 40 {
			switch part := parts[source.Intn(len(parts))]; source.Intn(6) {
			case 0:
				now := min(last, whole.x.Now+source.Int63n(5))
				whole.advance(t, now)
				for _, part := range parts {
					part.advance(t, now)
				}
			case 1:
				parts = append(parts, newStream(t, p, whole.x.Now))
			case 2:
				part.rebase(t, part.x.Land-source.Int63n(part.x.Land-start+1))
			default:
				v := drawn(source)
				whole.add(t, v)
				part.add(t, v)
			}
		}
		for len(parts) > 1 {
			i, j := source.Intn(len(parts)), source.Intn(len(parts)-1)
			part := parts[i]
			parts = slices.Delete(parts, i, i+1)
			parts[j].merge(t, part)
			parts[j].check(t)
		}
		if got := parts[0].x; !same(got, whole.x) {
			t.Fatalf("the parts make %v, not %v", got, whole.x)
		}
	}
}

// TestTwoOrders checks that a rebase and other calls may change places, whether a landmark moves in one step or in several.
func TestTwoOrders(t *testing.T) {
	seen := map[api.Errno]int{}
	for i, x := range validStates() {
		if x.Land < 2 {
			continue
		}
		half, err := Rebase(x, x.Land/2)
		if err != api.OK {
			continue
		}
		a, why := Rebase(half, 0)
		b, direct := Rebase(x, 0)
		step(t, "two steps", a, why, direct, b)
		seen[direct]++
		if direct != api.OK || x.Now == last {
			continue
		}
		v, now := int64(i)%(highest+1), x.Now+1+int64(i)%(last-x.Now)
		later, err := Advance(x, now)
		if err != api.OK {
			t.Fatalf("Advance(%v, %d) = %d", x, now, err)
		}
		more, err := Add(later, v)
		a, _ = Rebase(more, 0)
		b, _ = Advance(b, now)
		b, why = Add(b, v)
		if err == api.OK && why == api.OK {
			step(t, "a rebase after the item", a, api.OK, api.OK, b)
		}
	}
	enough(t, seen, 20, api.OK, api.ErrOver)
}

// call is a call with a state; results that the function does not have are zero.
type call func(x api.Poly) (api.Poly, api.Fraction, api.Errno)

// calls returns all calls with a state.
func calls() []call {
	none := api.Fraction{}
	all := []call{
		func(x api.Poly) (api.Poly, api.Fraction, api.Errno) { return api.Poly{}, none, Validate(x) },
		func(x api.Poly) (api.Poly, api.Fraction, api.Errno) {
			f, err := Ask(x)
			return api.Poly{}, f, err
		},
	}
	for _, n := range []int64{-1, 0, 1, 2, 5, 6, 7, 9, highest, highest + 1, last, last + 1} {
		for _, change := range []func(api.Poly, int64) (api.Poly, api.Errno){Advance, Add, Rebase} {
			all = append(all, func(x api.Poly) (api.Poly, api.Fraction, api.Errno) {
				y, err := change(x, n)
				return y, none, err
			})
		}
	}
	for _, y := range []api.Poly{level(1, 5, 7, num(9)), level(1, 2, 7, num(9)), level(2, 5, 7, num(9)), level(1, 7, 7, largeOf(top)), level(1, 5, 8, num(9)), {}} {
		all = append(all, func(x api.Poly) (api.Poly, api.Fraction, api.Errno) {
			z, err := Merge(x, y)
			return z, none, err
		}, func(x api.Poly) (api.Poly, api.Fraction, api.Errno) {
			z, err := Merge(y, x)
			return z, none, err
		})
	}
	return append(all, func(x api.Poly) (api.Poly, api.Fraction, api.Errno) {
		z, err := Merge(x, x)
		return z, none, err
	})
}

// argumentStates returns states of all powers, valid ones and others.
func argumentStates() []api.Poly {
	return []api.Poly{
		state(5, 7, lows(3)...), state(5, 7, lows(3, 7)...), state(5, 7, lows(3, 7, 17)...), state(5, 7, lows(3, 7, 17, 43)...), state(5, 7, lows(3, 7, 17, 43, 113)...), state(0, 7, lows(3, 7)...), level(1, 7, 7, num(0)), level(1, 5, 7, largeOf(top)), rise(4, 5, last, two(70, 3)), level(4, 0, last, num(1)),
		state(5, 7, lows(3, 2)...), state(5, 7, lows(3, 10)...), state(8, 7, lows(3, 3)...), state(5, 7, lows(3, 3, 3, 3, 3, 3)...), powered(state(5, 7, lows(3, 3, 3)...), 1), powered(state(5, 7, lows(3)...), 1), {P: 1, Land: 5, Now: 7}, {P: -1, Land: 5, Now: 7},
	}
}

// TestArguments checks that the moments, and the memory before and behind them, stay as they are, and that this memory does not matter.
func TestArguments(t *testing.T) {
	for _, x := range argumentStates() {
		n := len(x.Moments)
		odd := []api.Wide{{Lo: 77}, top, {Hi: 5, Lo: 6}}
		memory := slices.Concat(odd, x.Moments, odd, odd)
		before := slices.Clone(memory)
		for i, call := range calls() {
			want, answer, why := call(copied(x))
			for end := 3 + n; end <= len(memory); end++ {
				x.Moments = memory[3 : 3+n : end]
				got, f, err := call(x)
				if !same(got, want) || f != answer || err != why {
					t.Fatalf("call %d with %v = %v, %v, %d, not %v, %v, %d", i, x, got, f, err, want, answer, why)
				}
				// The result is new memory.
				for j := range got.Moments[:cap(got.Moments)] {
					got.Moments[:cap(got.Moments)][j].Hi++
				}
				if !slices.Equal(memory, before) {
					t.Fatalf("call %d with %v changed it, or what lies beside it, or shares it: %v", i, x, memory)
				}
			}
		}
	}
}

// TestMergedArguments merges states that lie in the same memory.
func TestMergedArguments(t *testing.T) {
	memory := lows(0, 3, 7, 9, 21, 50)
	before := slices.Clone(memory)
	for _, landmarks := range [][2]int64{{5, 5}, {5, 3}, {3, 5}, {0, 5}} {
		for i := range 5 {
			for j := range 5 {
				a, b := state(landmarks[0], 7, memory[i:i+2]...), state(landmarks[1], 7, memory[j:j+2]...)
				checkMerge(t, a, b)
				y, _ := Merge(a, b)
				for k := range y.Moments[:cap(y.Moments)] {
					y.Moments[:cap(y.Moments)][k].Lo++
				}
				if !slices.Equal(memory, before) {
					t.Fatalf("Merge(%v, %v) changed them, or shares them: %v", a, b, memory)
				}
			}
		}
	}
}

// TestBranches checks that the counters that were made from one do not disturb each other or the one that they came from.
func TestBranches(t *testing.T) {
	source := rand.New(rand.NewSource(34))
	for p := 0; p <= steep; p++ {
		root := level(p, 1000, 1000, num(0))
		states, copies := []api.Poly{root}, []api.Poly{root}
		for range 2000 {
			from := states[len(states)-1-source.Intn(min(9, len(states)))]
			to, err := Add(from, drawn(source))
			switch source.Intn(8) {
			case 0:
				to, err = Advance(from, from.Now+source.Int63n(3))
			case 1:
				to, err = Rebase(from, from.Land-source.Int63n(2))
			case 2:
				to, err = Merge(from, states[len(states)-1-source.Intn(min(9, len(states)))])
			}
			if err == api.OK {
				states, copies = append(states, to), append(copies, copied(to))
			}
		}
		if len(states) < 1500 {
			t.Errorf("p %d: only %d counters", p, len(states))
		}
		for i, x := range states {
			if !same(x, copies[i]) || !valid(x) {
				t.Fatalf("p %d: counter %d was %v and is %v", p, i, copies[i], x)
			}
		}
	}
}

// TestTwoOfOne makes several counters from each one of a stream, by all calls.
func TestTwoOfOne(t *testing.T) {
	for p := 0; p <= steep; p++ {
		s := newStream(t, p, 100)
		for n := range int64(40) {
			s.advance(t, 100+2*n)
			origin := *s
			origin.x = copied(s.x)
			stay, next, back, some, more, twice := *s, *s, *s, *s, *s, *s
			stay.advance(t, s.x.Now)
			next.advance(t, s.x.Now+3)
			back.rebase(t, s.x.Land-n)
			some.add(t, n)
			more.add(t, highest)
			twice.merge(t, s)
			after := []stream{some, next, back, stay, twice}
			for i := range after {
				after[i].add(t, 5)
			}
			some.rebase(t, 0)
			for i, branch := range append(after, stay, next, back, some, more, twice, origin) {
				branch.check(t)
				if i == len(after) && !same(branch.x, origin.x) {
					t.Fatalf("%v stays, but is %v", origin.x, branch.x)
				}
			}
			if !same(s.x, origin.x) {
				t.Fatalf("the counter was %v and is %v", origin.x, s.x)
			}
			*s = more
		}
	}
}
