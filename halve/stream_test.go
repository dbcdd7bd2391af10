package halve

import (
	"math/big"
	"math/rand"
	"slices"
	"testing"

	"windowpane/api"
	"windowpane/exact"
)

// stream is a counter with all items that were added.
type stream struct {
	x     api.Halve
	items []api.Item
}

// newStream returns an empty stream with these parameters.
func newStream(t *testing.T, a int, now int64) *stream {
	t.Helper()
	x, err := New(a, now)
	if err != api.OK {
		t.Fatalf("New(%d, %d) = %d", a, now, err)
	}
	return &stream{x: x}
}

// answer returns the answer as a number.
func answer(t *testing.T, x api.Halve) *big.Rat {
	t.Helper()
	f, err := Ask(x)
	if err != api.OK {
		t.Fatalf("Ask(%v) = %d", x, err)
	}
	return new(big.Rat).SetFrac(largeOf(f.Num), largeOf(f.Den))
}

// check holds the sums and the answer against the items.
func (s *stream) check(t *testing.T) {
	t.Helper()
	if Validate(s.x) != api.OK || !valid(s.x) {
		t.Fatalf("after %d items, %v is not valid", len(s.items), s.x)
	}
	a := len(s.x.Sums)
	sums := make([]int64, a)
	for _, item := range s.items {
		if age := s.x.Now - item.T; age < int64(a) {
			sums[age] += item.V
		}
	}
	if !slices.Equal(s.x.Sums, sums) {
		t.Fatalf("the sums of %v are not %v", s.x, sums)
	}
	if got, want := answer(t, s.x), truth(s.items, s.x.Now, a); got.Cmp(want) != 0 {
		t.Fatalf("Ask(%v) is %v, not %v", s.x, got, want)
	}
	f, _ := Ask(s.x)
	if want, ok := exact.Halve(s.items, s.x.Now, a); !ok || f != want {
		t.Fatalf("Ask(%v) = %v, not %v, %t", s.x, f, want, ok)
	}
}

// add, advance and merge compare a call with that of the model and go on with its result.
func (s *stream) add(t *testing.T, v int64) {
	t.Helper()
	if checkAdd(t, s.x, v) != api.OK {
		t.Fatalf("%v does not take %d", s.x, v)
	}
	s.x, _ = Add(s.x, v)
	s.items = append(slices.Clone(s.items), api.Item{T: s.x.Now, V: v})
}

func (s *stream) advance(t *testing.T, now int64) {
	t.Helper()
	if checkAdvance(t, s.x, now) != api.OK {
		t.Fatalf("%v does not advance to %d", s.x, now)
	}
	s.x, _ = Advance(s.x, now)
}

func (s *stream) merge(t *testing.T, other *stream) {
	t.Helper()
	if checkMerge(t, s.x, other.x) != api.OK {
		t.Fatalf("%v and %v are not merged", s.x, other.x)
	}
	s.x, _ = Merge(s.x, other.x)
	s.items = slices.Concat(s.items, other.items)
}

// drawn returns a value: 0, the greatest one, a small one, or any.
func drawn(source *rand.Rand) int64 {
	return []int64{0, highest, 1 + source.Int63n(9), source.Int63n(highest + 1)}[source.Intn(4)]
}

// TestStreams adds values and moves the clock at random.
func TestStreams(t *testing.T) {
	source := rand.New(rand.NewSource(43))
	twoWords := 0
	for range 300 {
		a := lengths()[source.Intn(len(lengths()))]
		start := []int64{0, 1, source.Int63n(100), last - 100, source.Int63n(last)}[source.Intn(5)]
		s := newStream(t, a, start)
		for range 80 {
			switch source.Intn(12) {
			case 0, 1, 2:
				s.advance(t, min(last, s.x.Now+source.Int63n(3)))
			case 3:
				s.advance(t, min(last, s.x.Now+source.Int63n(int64(a)+2)))
			case 4:
				if source.Intn(9) == 0 {
					s.advance(t, s.x.Now+source.Int63n(last-s.x.Now+1))
				}
			default:
				s.add(t, drawn(source))
			}
			s.check(t)
		}
		if f, _ := Ask(s.x); f.Num.Hi > 0 {
			twoWords++
		}
	}
	if twoWords < 30 {
		t.Errorf("only %d streams have a numerator of two words", twoWords)
	}
}

// TestSmallStreams makes all short sequences of calls.
func TestSmallStreams(t *testing.T) {
	var extend func(s stream, depth int)
	extend = func(s stream, depth int) {
		s.check(t)
		if depth == 0 {
			return
		}
		for _, call := range []func(s *stream){func(s *stream) { s.add(t, 0) }, func(s *stream) { s.add(t, 3) }, func(s *stream) { s.add(t, highest) }, func(s *stream) { s.advance(t, s.x.Now+1) }, func(s *stream) { s.advance(t, s.x.Now+2) }, func(s *stream) { s.merge(t, &stream{x: s.x, items: s.items}) }} {
			next := s
			call(&next)
			extend(next, depth-1)
		}
	}
	for a := 1; a <= 4; a++ {
		for _, start := range []int64{0, 1, 9} {
			extend(*newStream(t, a, start), 4)
		}
	}
}

// TestGreatestStream doubles the greatest value of each of MaxAge ticks until each sum is the greatest one, and lets it vanish.
func TestGreatestStream(t *testing.T) {
	for _, start := range []int64{0, last - 3*oldest} {
		s := newStream(t, oldest, start)
		for n := range int64(oldest) {
			s.advance(t, start+n)
			s.add(t, highest)
			s.check(t)
		}
		for range 28 {
			items := slices.Clone(s.items)
			s.merge(t, &stream{x: s.x})
			for i := range items {
				items[i].V *= 2
			}
			s.items = items
			s.check(t)
		}
		if !same(s.x, flat(oldest, s.x.Now, full)) {
			t.Fatalf("the sums of %v are not the greatest ones", s.x)
		}
		if checkAdd(t, s.x, 1) != api.ErrOver || checkMerge(t, s.x, s.x) != api.ErrOver {
			t.Fatalf("%v takes more", s.x)
		}
		for n := range int64(oldest + 2) {
			s.advance(t, start+oldest+n)
			s.check(t)
		}
	}
}

// TestHalving checks that the answer without new items is half as great after a tick, but for the items that vanish.
func TestHalving(t *testing.T) {
	half := big.NewRat(1, 2)
	whole, vanishing := 0, 0
	for _, x := range validStates() {
		if x.Now == last {
			continue
		}
		gone := x.Sums[len(x.Sums)-1]
		y, err := Advance(x, x.Now+1)
		if err != api.OK {
			t.Fatalf("Advance(%v, %d) = %d", x, x.Now+1, err)
		}
		want := answer(t, x)
		if gone > 0 {
			weight := weightOf(int64(len(x.Sums)-1), len(x.Sums))
			want.Sub(want, weight.Mul(weight, new(big.Rat).SetInt(num(gone))))
			vanishing++
		} else {
			whole++
		}
		if got := answer(t, y); got.Cmp(want.Mul(want, half)) != 0 {
			t.Fatalf("a tick after %v, Ask is %v, not %v", x, got, want)
		}
	}
	if whole < 200 || vanishing < 200 {
		t.Errorf("%d states lose nothing, and %d lose items", whole, vanishing)
	}
}

// TestSplitStreams deals the items of a stream out to counters, and merges these in any order.
func TestSplitStreams(t *testing.T) {
	source := rand.New(rand.NewSource(44))
	for range 300 {
		a := lengths()[source.Intn(len(lengths()))]
		start := []int64{0, 3, last / 2, last - 90}[source.Intn(4)]
		whole := newStream(t, a, start)
		parts := []*stream{newStream(t, a, start)}
		for range 60 {
			switch part := parts[source.Intn(len(parts))]; source.Intn(6) {
			case 0:
				now := min(last, whole.x.Now+source.Int63n(5))
				whole.advance(t, now)
				for _, part := range parts {
					part.advance(t, now)
				}
			case 1:
				parts = append(parts, newStream(t, a, whole.x.Now))
			default:
				v := drawn(source)
				whole.add(t, v)
				part.add(t, v)
			}
		}
		for len(parts) > 1 {
			i, j := source.Intn(len(parts)), source.Intn(len(parts)-1)
			part := parts[i]
			parts = slices.Delete(parts, i, i+1)
			parts[j].merge(t, part)
			parts[j].check(t)
		}
		if got := parts[0].x; !same(got, whole.x) {
			t.Fatalf("the parts make %v, not %v", got, whole.x)
		}
	}
}

// TestTwoOrders checks that a merge and a step of the clock may change places.
func TestTwoOrders(t *testing.T) {
	states := validStates()
	seen := map[api.Errno]int{}
	for i, x := range states {
		for _, y := range states[i:min(len(states), i+6)] {
			both, err := Merge(x, y)
			seen[err]++
			if err != api.OK {
				continue
			}
			now := min(last, x.Now+int64(i)%70)
			a, _ := Advance(x, now)
			b, _ := Advance(y, now)
			want, why := Advance(both, now)
			got, err := Merge(a, b)
			step(t, "a merge after a step", got, err, why, want)
		}
	}
	enough(t, seen, 500, api.OK, api.ErrOver)
}

// call is a call with a state; results that the function does not have are zero.
type call func(x api.Halve) (api.Halve, api.Fraction, api.Errno)

// calls returns all calls with a state.
func calls() []call {
	none := api.Fraction{}
	all := []call{
		func(x api.Halve) (api.Halve, api.Fraction, api.Errno) { return api.Halve{}, none, Validate(x) },
		func(x api.Halve) (api.Halve, api.Fraction, api.Errno) {
			f, err := Ask(x)
			return api.Halve{}, f, err
		},
		func(x api.Halve) (api.Halve, api.Fraction, api.Errno) {
			y, err := Merge(x, x)
			return y, none, err
		},
	}
	for _, n := range []int64{-1, 0, 1, 5, 6, 7, 8, 9, 10, 11, 12, 71, highest, highest + 1, last, last + 1} {
		for _, change := range []func(api.Halve, int64) (api.Halve, api.Errno){Advance, Add} {
			all = append(all, func(x api.Halve) (api.Halve, api.Fraction, api.Errno) {
				y, err := change(x, n)
				return y, none, err
			})
		}
	}
	for _, y := range []api.Halve{state(7, 9), state(7, 9, 9, 9), state(7, full, full, full), state(7, 1, 1, full), flat(64, 7, 9), state(8, 9, 9, 9), {}} {
		all = append(all, func(x api.Halve) (api.Halve, api.Fraction, api.Errno) {
			z, err := Merge(x, y)
			return z, none, err
		}, func(x api.Halve) (api.Halve, api.Fraction, api.Errno) {
			z, err := Merge(y, x)
			return z, none, err
		})
	}
	return all
}

// argumentStates returns states of several lengths, valid ones and others.
func argumentStates() []api.Halve {
	return []api.Halve{
		state(7, 3), state(7, 0), state(7, full), state(7, 3, 5), state(7, 3, 5, 9), state(7, 0, 0, 0), state(7, full, full, full), state(7, 1, full, 1), state(1, 2, 5, 0), state(last, 1, 2, 3, 4, 5), rise(64, 7, 3), rise(64, 70, full/2), flat(64, last, full),
		state(7), state(7, 3, -1, 9), state(7, 3, 5, full+1), state(1, 2, 5, 1), state(-1, 3, 5), state(last+1, 3, 5), flat(65, 70, 1),
	}
}

// TestArguments checks that the sums, and the memory before and behind them, stay as they are, and that this memory does not matter.
func TestArguments(t *testing.T) {
	for _, x := range argumentStates() {
		n := len(x.Sums)
		odd := []int64{77, most, -5, 1}
		memory := slices.Concat(odd, x.Sums, odd, odd)
		before := slices.Clone(memory)
		for i, call := range calls() {
			want, answer, why := call(copied(x))
			for end := 4 + n; end <= len(memory); end++ {
				x.Sums = memory[4 : 4+n : end]
				got, f, err := call(x)
				if !same(got, want) || f != answer || err != why {
					t.Fatalf("call %d with %v = %v, %v, %d, not %v, %v, %d", i, x, got, f, err, want, answer, why)
				}
				// The result is new memory.
				for j := range got.Sums[:cap(got.Sums)] {
					got.Sums[:cap(got.Sums)][j]++
				}
				if !slices.Equal(memory, before) {
					t.Fatalf("call %d with %v changed it, or what lies beside it, or shares it: %v", i, x, memory)
				}
			}
		}
	}
}

// TestMergedArguments merges states that lie in the same memory.
func TestMergedArguments(t *testing.T) {
	memory := []int64{0, 3, 7, 9, full - 8, 50, 1, full, 2}
	before := slices.Clone(memory)
	seen := map[api.Errno]int{}
	for n := 1; n <= 5; n++ {
		for i := range len(memory) - n + 1 {
			for j := range len(memory) - n + 1 {
				a, b := state(7, memory[i:i+n]...), state(7, memory[j:j+n]...)
				seen[checkMerge(t, a, b)]++
				y, _ := Merge(a, b)
				for k := range y.Sums[:cap(y.Sums)] {
					y.Sums[:cap(y.Sums)][k]++
				}
				if !slices.Equal(memory, before) {
					t.Fatalf("Merge(%v, %v) changed them, or shares them: %v", a, b, memory)
				}
			}
		}
	}
	enough(t, seen, 50, api.OK, api.ErrOver)
}

// TestBranches checks that the counters that were made from one do not disturb each other or the one that they came from.
func TestBranches(t *testing.T) {
	source := rand.New(rand.NewSource(45))
	for _, a := range lengths() {
		root := flat(a, 1000, 0)
		states, copies := []api.Halve{root}, []api.Halve{root}
		for range 2000 {
			from := states[len(states)-1-source.Intn(min(9, len(states)))]
			to, err := Add(from, drawn(source))
			switch source.Intn(8) {
			case 0:
				to, err = Advance(from, from.Now)
			case 1:
				to, err = Advance(from, from.Now+source.Int63n(3))
			case 2:
				to, err = Merge(from, states[len(states)-1-source.Intn(min(9, len(states)))])
			}
			if err == api.OK {
				states, copies = append(states, to), append(copies, copied(to))
			}
		}
		if len(states) < 1500 {
			t.Errorf("a %d: only %d counters", a, len(states))
		}
		for i, x := range states {
			if !same(x, copies[i]) || !valid(x) {
				t.Fatalf("a %d: counter %d was %v and is %v", a, i, copies[i], x)
			}
		}
	}
}

// TestTwoOfOne makes several counters from each one of a stream, by all calls.
func TestTwoOfOne(t *testing.T) {
	for _, a := range lengths() {
		s := newStream(t, a, 100)
		for n := range int64(70) {
			s.advance(t, 100+n)
			origin := *s
			origin.x = copied(s.x)
			stay, next, far, some, more, twice := *s, *s, *s, *s, *s, *s
			stay.advance(t, s.x.Now)
			next.advance(t, s.x.Now+1)
			far.advance(t, s.x.Now+int64(a))
			some.add(t, n)
			more.add(t, highest)
			twice.merge(t, s)
			after := []stream{stay, next, far, some, more, twice}
			for i := range after {
				after[i].add(t, 5)
			}
			for _, branch := range append(after, stay, next, far, some, more, twice) {
				branch.check(t)
			}
			if !same(s.x, origin.x) {
				t.Fatalf("the counter was %v and is %v", origin.x, s.x)
			}
			*s = more
		}
	}
}
