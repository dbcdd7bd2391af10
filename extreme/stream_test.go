package extreme

import (
	"math/rand"
	"slices"
	"testing"

	"windowpane/api"
	"windowpane/exact"
)

// stream is a deque with all items that were added to it.
type stream struct {
	x     api.Extreme
	items []api.Item
}

// newStream returns an empty stream with these parameters.
func newStream(t *testing.T, max bool, w int64, size int, now int64) *stream {
	t.Helper()
	x, err := New(max, w, size, now)
	if err != api.OK {
		t.Fatalf("New(%t, %d, %d, %d) = %d", max, w, size, now, err)
	}
	return &stream{x: x}
}

// check holds the deque and the answer against the items.
func (s *stream) check(t *testing.T) {
	t.Helper()
	x := s.x
	if Validate(x) != api.OK || !valid(x) {
		t.Fatalf("after %d items, %v is not valid", len(s.items), x)
	}
	live := living(s.items, x.Now, x.W)
	if want := unruled(x.Max, live); !slices.Equal(x.Items, want) {
		t.Fatalf("the items of %v are not %v", x, want)
	}
	if n := int64(len(x.Items)); n > x.W || n > int64(x.Cap) {
		t.Fatalf("%v has more than %d items or %d", x, x.W, x.Cap)
	}
	find := exact.Least
	if x.Max {
		find = exact.Greatest
	}
	want, ok := find(live)
	if v, err := Ask(x); v != want || err == api.ErrEmpty == ok || err != api.OK == ok {
		t.Fatalf("Ask(%v) = %d, %d, not %d, %t", x, v, err, want, ok)
	}
}

// add, advance and merge compare a call with that of the model and go on with its result, if there is one.
func (s *stream) add(t *testing.T, v int64) api.Errno {
	t.Helper()
	why := checkAdd(t, s.x, v)
	if why != api.OK {
		return why
	}
	s.x, _ = Add(s.x, v)
	s.items = append(slices.Clone(s.items), api.Item{T: s.x.Now, V: v})
	return why
}

func (s *stream) advance(t *testing.T, now int64) {
	t.Helper()
	if checkAdvance(t, s.x, now) != api.OK {
		t.Fatalf("%v does not advance to %d", s.x, now)
	}
	s.x, _ = Advance(s.x, now)
	// Items that are not live any more never come back.
	s.items = living(s.items, now, s.x.W)
}

func (s *stream) merge(t *testing.T, other *stream) api.Errno {
	t.Helper()
	why := checkMerge(t, s.x, other.x)
	if why != api.OK {
		return why
	}
	s.x, _ = Merge(s.x, other.x)
	s.items = slices.Concat(s.items, other.items)
	return why
}

// TestAllShortStreams makes all sequences of a few calls.
func TestAllShortStreams(t *testing.T) {
	seen := map[api.Errno]int{}
	var extend func(s stream, depth int)
	extend = func(s stream, depth int) {
		s.check(t)
		if depth == 0 {
			return
		}
		for v := int64(-1); v <= 1; v++ {
			next := s
			seen[next.add(t, v)]++
			extend(next, depth-1)
		}
		for by := int64(1); by <= 3; by++ {
			next := s
			next.advance(t, s.x.Now+by)
			extend(next, depth-1)
		}
	}
	for _, max := range []bool{true, false} {
		for w := int64(1); w <= 4; w++ {
			for n := 1; n <= 2; n++ {
				extend(*newStream(t, max, w, n, 0), 6)
			}
			extend(*newStream(t, max, w, 3, last-20), 6)
		}
	}
	enough(t, seen, 3000, api.OK, api.ErrFull)
}

// drawn returns a value: often a small one, so that values are equal, and sometimes one at the limits.
func drawn(source *rand.Rand) int64 {
	switch source.Intn(8) {
	case 0:
		return highest - 2*highest*source.Int63n(2)
	case 1:
		return source.Int63n(2*highest+1) - highest
	}
	return source.Int63n(21) - 10
}

// TestRandomStreams adds values that fall, rise or are drawn, with steps of the clock of all sizes.
func TestRandomStreams(t *testing.T) {
	source := rand.New(rand.NewSource(17))
	seen := map[api.Errno]int{}
	for i := range 400 {
		w := []int64{1, 2, 3, 5, 20, 1000, longest - 1, longest}[source.Intn(8)]
		size := []int{1, 2, 5, 30, fullest}[source.Intn(5)]
		start := []int64{0, 7, last / 2, last - 400}[source.Intn(4)]
		s := newStream(t, source.Intn(2) == 0, w, size, start)
		slant := []int64{-3, 0, 3}[i%3]
		for n := range int64(120) {
			switch source.Intn(9) {
			case 0:
				s.advance(t, min(last, s.x.Now+source.Int63n(w+2)))
			case 1, 2, 3, 4:
				s.advance(t, min(last, s.x.Now+source.Int63n(3)))
			default:
				v := drawn(source)
				if slant != 0 {
					v = slant*n + source.Int63n(7)
				}
				seen[s.add(t, v)]++
			}
			s.check(t)
		}
	}
	enough(t, seen, 1000, api.OK, api.ErrFull)
}

// TestRefusedItems checks that a deque that is full takes items again when one has left, or when one rules out others.
func TestRefusedItems(t *testing.T) {
	ways(state(5, 3, 0), func(x api.Extreme, sign int64) {
		s := &stream{x: x}
		for _, v := range []int64{9, 7, 5} {
			if s.add(t, sign*v) != api.OK {
				t.Fatalf("%v does not take %d", s.x, v)
			}
			s.advance(t, s.x.Now+1)
		}
		for now := int64(3); now <= 4; now++ {
			s.advance(t, now)
			if s.add(t, sign*4) != api.ErrFull {
				t.Fatalf("%v takes 4", s.x)
			}
			s.check(t)
		}
		s.advance(t, 5)
		if s.add(t, sign*4) != api.OK {
			t.Fatalf("%v does not take 4", s.x)
		}
		s.advance(t, 6)
		s.check(t)
		if s.add(t, sign*3) != api.OK || s.add(t, sign*6) != api.OK || s.add(t, sign*2) != api.OK {
			t.Fatalf("%v does not take 3, 6 and 2", s.x)
		}
		s.check(t)
	})
}

// TestSplitStreams deals the items of a stream out to deques, and merges these in any order.
func TestSplitStreams(t *testing.T) {
	source := rand.New(rand.NewSource(18))
	for range 300 {
		max, w := source.Intn(2) == 0, []int64{1, 2, 5, 30, 1000, longest}[source.Intn(6)]
		start := []int64{0, 3, last / 2, last - 200}[source.Intn(4)]
		whole := newStream(t, max, w, fullest, start)
		parts := []*stream{newStream(t, max, w, fullest, start)}
		for range 80 {
			switch part := parts[source.Intn(len(parts))]; source.Intn(8) {
			case 0, 1, 2:
				now := min(last, whole.x.Now+source.Int63n(4))
				whole.advance(t, now)
				for _, part := range parts {
					part.advance(t, now)
				}
			case 3:
				if len(parts) < 6 {
					parts = append(parts, newStream(t, max, w, 1+source.Intn(fullest), whole.x.Now))
				}
			default:
				v := drawn(source)
				if part.add(t, v) == api.OK {
					whole.add(t, v)
				}
			}
		}
		for len(parts) > 1 {
			i, j := source.Intn(len(parts)), source.Intn(len(parts)-1)
			part := parts[i]
			parts = slices.Delete(parts, i, i+1)
			parts[j].merge(t, part)
			parts[j].check(t)
		}
		if got := parts[0].x; !same(got, whole.x) {
			t.Fatalf("the parts make %v, not %v", got, whole.x)
		}
	}
}

// TestTwoOrders checks that a merge and a step of the clock may change places.
func TestTwoOrders(t *testing.T) {
	states := validStates()
	seen := map[api.Errno]int{}
	for i, x := range states {
		for _, y := range states[i:min(len(states), i+9)] {
			both, err := Merge(x, y)
			seen[err]++
			if err != api.OK {
				continue
			}
			now := min(last, x.Now+int64(i)%5)
			a, _ := Advance(x, now)
			b, _ := Advance(y, now)
			want, why := Advance(both, now)
			got, err := Merge(a, b)
			step(t, "a merge after a step", got, err, why, want)
		}
	}
	enough(t, seen, 500, api.OK)
}

// call is a call with a state; results that the function does not have are zero.
type call func(x api.Extreme) (api.Extreme, int64, api.Errno)

// calls returns all calls with a state.
func calls() []call {
	all := []call{
		func(x api.Extreme) (api.Extreme, int64, api.Errno) { return api.Extreme{}, 0, Validate(x) },
		func(x api.Extreme) (api.Extreme, int64, api.Errno) {
			v, err := Ask(x)
			return api.Extreme{}, v, err
		},
		func(x api.Extreme) (api.Extreme, int64, api.Errno) {
			y, err := Merge(x, x)
			return y, 0, err
		},
	}
	for _, n := range []int64{-highest - 1, -highest, -5, -1, 0, 1, 2, 3, 5, 6, 7, 9, 10, 11, 13, 17, 18, highest, highest + 1, last, last + 1} {
		for _, change := range []func(api.Extreme, int64) (api.Extreme, api.Errno){Advance, Add} {
			all = append(all, func(x api.Extreme) (api.Extreme, int64, api.Errno) {
				y, err := change(x, n)
				return y, 0, err
			})
		}
	}
	for _, y := range bothWays([]api.Extreme{state(9, 1, 9), state(9, 9, 9, 2, 7, 9, 1), state(9, 9, 9, 9, 9), state(9, 9, 9, 1, 3), state(9, 2, 9, 4, 6, 9, 5), state(8, 9, 9), {}}) {
		all = append(all, func(x api.Extreme) (api.Extreme, int64, api.Errno) {
			z, err := Merge(x, y)
			return z, 0, err
		}, func(x api.Extreme) (api.Extreme, int64, api.Errno) {
			z, err := Merge(y, x)
			return z, 0, err
		})
	}
	return all
}

// argumentStates returns states of several sizes, valid ones and others.
func argumentStates() []api.Extreme {
	return bothWays([]api.Extreme{
		state(9, 1, 9), state(9, 9, 9), state(9, 1, 9, 1, 9), state(9, 1, 9, 9, 9), state(9, 9, 9, 5, -3), state(9, 2, 9, 1, 9, 9, 5), state(9, 9, 9, 1, 9, 9, 5), state(9, 3, 9, 1, 9, 2, 5, 3, 1), state(9, 9, 9, 1, 9, 2, 5, 3, 1), state(9, 4, 9, 1, highest, 2, 5, 3, 1, 9, -highest), state(9, 9, 9, 3, 8, 5, 6, 7, 4, 9, 2),
		state(9, 9, 9, 0, 5), state(9, 9, 9, 10, 5), state(9, 9, 9, 1, 5, 2, 5), state(9, 9, 9, 2, 5, 1, 4), state(9, 1, 9, 1, 9, 2, 5), state(9, 9, 9, 1, highest+1), state(0, 9, 9, 9, 5),
	})
}

// TestArguments checks that the items, and the memory before and behind them, stay as they are, and that this memory does not matter.
func TestArguments(t *testing.T) {
	odd := it(77, most, -5, 1, 9, 0, 0, 0)
	for _, x := range argumentStates() {
		n := len(x.Items)
		memory := slices.Concat(odd, x.Items, odd, odd)
		before := slices.Clone(memory)
		for i, call := range calls() {
			want, answer, why := call(copied(x))
			for end := 4 + n; end <= len(memory); end++ {
				x.Items = memory[4 : 4+n : end]
				got, v, err := call(x)
				if !same(got, want) || v != answer || err != why {
					t.Fatalf("call %d with %v = %v, %d, %d, not %v, %d, %d", i, x, got, v, err, want, answer, why)
				}
				overwrite(got)
				if !slices.Equal(memory, before) {
					t.Fatalf("call %d with %v changed it, or what lies beside it, or shares it: %v", i, x, memory)
				}
			}
		}
	}
}

// overwrite changes all memory of a state, which must be new.
func overwrite(x api.Extreme) {
	memory := x.Items[:cap(x.Items)]
	for i := range memory {
		memory[i].T++
		memory[i].V -= 9
	}
}

// TestMergedArguments merges states that lie in the same memory.
func TestMergedArguments(t *testing.T) {
	seen := map[api.Errno]int{}
	ways(state(20, 4, 20, 1, 90, 3, 70, 5, 60, 8, 50, 9, 30, 12, 10, 15, 0, 20, -5), func(x api.Extreme, sign int64) {
		memory := x.Items
		before := slices.Clone(memory)
		for i := range len(memory) + 1 {
			for j := i; j <= min(i+4, len(memory)); j++ {
				for k := range len(memory) + 1 {
					for l := k; l <= min(k+4, len(memory)); l++ {
						a, b := with(x, memory[i:j]...), with(x, memory[k:l]...)
						seen[checkMerge(t, a, b)]++
						y, _ := Merge(a, b)
						overwrite(y)
						if !slices.Equal(memory, before) {
							t.Fatalf("Merge(%v, %v) changed them, or shares them: %v", a, b, memory)
						}
					}
				}
			}
		}
	})
	enough(t, seen, 300, api.OK, api.ErrFull)
}

// TestBranches checks that the deques that were made from one do not disturb each other or the one that they came from.
func TestBranches(t *testing.T) {
	source := rand.New(rand.NewSource(19))
	for _, max := range []bool{true, false} {
		for _, w := range windows() {
			root := api.Extreme{Max: max, W: w, Cap: 40, Now: 1000}
			states, copies := []api.Extreme{root}, []api.Extreme{root}
			for range 2500 {
				from := states[len(states)-1-source.Intn(min(9, len(states)))]
				to, err := Add(from, drawn(source))
				switch source.Intn(8) {
				case 0:
					to, err = Advance(from, from.Now)
				case 1, 2, 3:
					to, err = Advance(from, from.Now+source.Int63n(3))
				case 4:
					to, err = Merge(from, states[len(states)-1-source.Intn(min(9, len(states)))])
				}
				if err == api.OK {
					states, copies = append(states, to), append(copies, copied(to))
				}
			}
			if len(states) < 1500 {
				t.Errorf("w %d: only %d deques", w, len(states))
			}
			for i, x := range states {
				if !same(x, copies[i]) || !valid(x) {
					t.Fatalf("w %d: deque %d was %v and is %v", w, i, copies[i], x)
				}
			}
		}
	}
}

// TestTwoOfOne makes several deques from each one of a stream, by all calls.
func TestTwoOfOne(t *testing.T) {
	for _, max := range []bool{true, false} {
		for _, w := range windows() {
			s := newStream(t, max, w, 60, 100)
			for n := range int64(70) {
				s.advance(t, 100+n)
				origin := copied(s.x)
				stay, next, far, low, middle, high, twice := *s, *s, *s, *s, *s, *s, *s
				stay.advance(t, s.x.Now)
				next.advance(t, s.x.Now+1)
				far.advance(t, s.x.Now+w)
				low.add(t, -highest+n)
				middle.add(t, 100-5*n%300)
				high.add(t, highest-n)
				twice.merge(t, s)
				after := []stream{stay, next, far, low, middle, high, twice}
				for i := range after {
					after[i].add(t, 5*(int64(i)-3))
				}
				for _, branch := range append(after, stay, next, far, low, middle, high, twice) {
					branch.check(t)
				}
				if !same(s.x, origin) {
					t.Fatalf("the deque was %v and is %v", origin, s.x)
				}
				*s = middle
			}
		}
	}
}
