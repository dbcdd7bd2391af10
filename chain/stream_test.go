package chain

import (
	"math/rand"
	"slices"
	"testing"

	"windowpane/api"
)

// stream is a sample with what is known of its items: their values, the successors that were drawn for them, and which one is the sample.
type stream struct {
	x                  api.Chain
	values, successors map[int64]int64
	sample             int64
}

// streamFrom returns a stream that goes on from a valid state.
func streamFrom(x api.Chain) *stream {
	s := &stream{x: x, values: map[int64]int64{}, successors: map[int64]int64{}}
	for k, link := range x.Links {
		s.values[link.I], s.successors[link.I] = link.V, x.Next
		if k > 0 {
			s.successors[x.Links[k-1].I] = link.I
		}
	}
	if len(x.Links) > 0 {
		s.sample = x.Links[0].I
	}
	return s
}

// newStream returns an empty stream.
func newStream(t *testing.T, w int64, size int) *stream {
	t.Helper()
	x, err := New(w, size)
	if err != api.OK {
		t.Fatalf("New(%d, %d) = %d", w, size, err)
	}
	return streamFrom(x)
}

// check holds the sample against the items.
func (s *stream) check(t *testing.T) {
	t.Helper()
	x := s.x
	if Validate(x) != api.OK || !valid(x) {
		t.Fatalf("%v is not valid", x)
	}
	for k, link := range x.Links {
		after := x.Next
		if k+1 < len(x.Links) {
			after = x.Links[k+1].I
		}
		if v, ok := s.values[link.I]; !ok || v != link.V || s.successors[link.I] != after {
			t.Fatalf("the link %d of %v has the value %d and the successor %d", link.I, x, v, s.successors[link.I])
		}
	}
	v, err := Ask(x)
	if x.I == 0 {
		if v != 0 || err != api.ErrEmpty {
			t.Fatalf("Ask(%v) = %d, %d", x, v, err)
		}
		return
	}
	if want, ok := s.values[s.sample]; !ok || v != want || err != api.OK || s.sample <= x.I-x.W || s.sample > x.I {
		t.Fatalf("Ask(%v) = %d, %d, not %d of the item %d", x, v, err, want, s.sample)
	}
}

// chosen returns the draws that an item needs, behind those that it does not.
func chosen(t *testing.T, x api.Chain, v int64, before []int64, choose func(m int64) int64) []int64 {
	t.Helper()
	draws := slices.Clone(before)
	for checkNeeds(t, x, v, draws, len(before)) {
		m, _ := Needs(x, v, draws, len(before))
		draws = append(draws, choose(m))
	}
	return draws
}

// add compares an addition with that of the model and goes on with its result, if there is one.
func (s *stream) add(t *testing.T, v int64, choose func(m int64) int64) api.Errno {
	t.Helper()
	before := []int64{77, -1, 0, 0}[:s.x.I%5]
	draws := chosen(t, s.x, v, before, choose)
	why := checkAdd(t, s.x, v, append(slices.Clone(draws), 0, 5), len(before))
	if why != api.OK {
		return why
	}
	x, at, _ := Add(s.x, v, draws, len(before))
	i, own := s.x.I+1, draws[len(before):]
	if x.I != i || at != len(draws) {
		t.Fatalf("Add(%v, %v) = %v, %d", s.x, draws, x, at)
	}
	s.values[i] = v
	if slices.Contains(x.Links, api.Link{I: i, V: v}) {
		s.successors[i] = i + 1 + own[len(own)-1]
	}
	switch {
	case s.x.I > 0 && s.sample == i-x.W:
		s.sample = s.successors[s.sample]
	case own[0] == 0:
		s.sample = i
	}
	s.x = x
	return why
}

// drawn returns a value, sometimes one at the limits.
func drawn(source *rand.Rand) int64 {
	if source.Intn(8) == 0 {
		return highest - 2*highest*source.Int63n(2)
	}
	return source.Int63n(2*highest+1) - highest
}

// choices returns ways to choose draws: at random, always the first or last one, rarely 0, and such that successors come soon or late.
func choices(source *rand.Rand) []func(m int64) int64 {
	return []func(m int64) int64{
		source.Int63n,
		func(m int64) int64 { return 0 },
		func(m int64) int64 { return m - 1 },
		func(m int64) int64 { return max(source.Int63n(m), min(1, m-1)) },
		func(m int64) int64 { return min(1+source.Int63n(3), m-1) },
		func(m int64) int64 { return max(0, m-1-source.Int63n(3)) },
		func(m int64) int64 { return min(source.Int63n(2), m-1) },
	}
}

// TestStreams adds items with draws of all kinds, from the first item on.
func TestStreams(t *testing.T) {
	source := rand.New(rand.NewSource(18))
	seen := map[api.Errno]int{}
	for _, w := range []int64{1, 2, 3, 4, 5, 7, 20, 64, 100, 1000, longest - 1, longest} {
		for _, n := range []int{1, 2, 3, 9, fullest} {
			for _, choose := range choices(source) {
				s := newStream(t, w, n)
				s.check(t)
				for range 150 {
					seen[s.add(t, drawn(source), choose)]++
					s.check(t)
				}
			}
		}
	}
	enough(t, seen, 3000, api.OK, api.ErrChain)
}

// TestSampleInWindow adds a long stream, of which each sample must be one of the last items.
func TestSampleInWindow(t *testing.T) {
	source := rand.New(rand.NewSource(19))
	for _, w := range []int64{1, 2, 10, 50} {
		s := newStream(t, w, fullest)
		for i := range int64(3000) {
			if why := s.add(t, i%highest-1000, source.Int63n); why != api.OK {
				t.Fatalf("Add(%v) = %d", s.x, why)
			}
			s.check(t)
			if v, _ := Ask(s.x); v > i-1000 || v <= i-w-1000 {
				t.Fatalf("w %d: the sample at the item %d is %d", w, i, v)
			}
		}
	}
}

// TestAllShortStreams makes all streams of a few items.
func TestAllShortStreams(t *testing.T) {
	seen := map[api.Errno]int{}
	var extend func(x api.Chain, depth int64)
	extend = func(x api.Chain, depth int64) {
		streamFrom(x).check(t)
		if depth == 0 {
			return
		}
		for d := int64(-1); d <= x.W; d++ {
			for e := int64(-1); e <= x.W; e++ {
				v := valueOf(x.I % 100)
				why := checkAdd(t, x, v, []int64{d, e}, 0)
				seen[why]++
				y, at, _ := Add(x, v, []int64{d, e}, 0)
				// Sequences that differ only behind the draws that were used are made once.
				if why == api.OK && (at == 2 || e == 0) && (at > 0 || d == 0) {
					extend(y, depth-1)
				}
			}
		}
	}
	for w := int64(1); w <= 3; w++ {
		for n := 1; n <= 3; n++ {
			extend(state(w, n, 0, 0), 9-w)
		}
		extend(state(w, 2, total-2, total-1, total-2, 5), 3)
	}
	enough(t, seen, 1000, api.OK, api.ErrDraw, api.ErrChain)
	enough(t, seen, 100, api.ErrFull)
}

// TestLastItems goes on to the last item that a sample can have.
func TestLastItems(t *testing.T) {
	source := rand.New(rand.NewSource(20))
	for _, w := range windows() {
		for _, choose := range choices(source) {
			s := streamFrom(state(w, fullest, total-200, total-199, total-200, 5))
			for s.x.I < total {
				if why := s.add(t, drawn(source), choose); why == api.ErrChain {
					break
				}
				s.check(t)
			}
			if s.x.I == total && checkAdd(t, s.x, 5, []int64{0, 0}, 0) != api.ErrFull {
				t.Fatalf("%v is not full", s.x)
			}
		}
	}
}

// TestRefused checks that a sample goes on after an item that would have made too many links: with another draw, or after a link has left.
func TestRefused(t *testing.T) {
	x := state(4, 2, 5, 6, 4, 1, 5, 2)
	if checkAdd(t, x, 3, []int64{1, 0}, 0) != api.ErrChain || checkAdd(t, x, 3, []int64{0, 0}, 0) != api.OK {
		t.Fatalf("%v does not go on", x)
	}
	y := state(4, 2, 7, 8, 4, 1, 5, 2)
	z, at, err := Add(y, 3, []int64{0}, 0)
	if want := state(4, 2, 8, 9, 5, 2, 8, 3); !same(z, want) || at != 1 || err != api.OK {
		t.Fatalf("Add(%v) = %v, %d, %d, not %v", y, z, at, err, want)
	}
}

// result is what a call returns; results that the function does not have are zero.
type result struct {
	x   api.Chain
	n   int64
	ok  bool
	err api.Errno
}

func (r result) equals(other result) bool {
	return same(r.x, other.x) && r.n == other.n && r.ok == other.ok && r.err == other.err
}

// calls returns all calls with a state and draws.
func calls() []func(x api.Chain, draws []int64) result {
	all := []func(x api.Chain, draws []int64) result{
		func(x api.Chain, _ []int64) result { return result{err: Validate(x)} },
		func(x api.Chain, _ []int64) result {
			v, err := Ask(x)
			return result{n: v, err: err}
		},
	}
	for _, v := range []int64{5, highest, highest + 1} {
		for at := -1; at <= 4; at++ {
			all = append(all, func(x api.Chain, draws []int64) result {
				y, next, err := Add(x, v, draws, at)
				return result{x: y, n: int64(next), err: err}
			}, func(x api.Chain, draws []int64) result {
				m, ok := Needs(x, v, draws, at)
				return result{n: m, ok: ok}
			})
		}
	}
	return all
}

// overwrite changes all memory of a state, which must be new.
func overwrite(x api.Chain) {
	memory := x.Links[:cap(x.Links)]
	for i := range memory {
		memory[i].I++
		memory[i].V -= 9
	}
}

// argumentStates returns states of several sizes, valid ones and others.
func argumentStates() []api.Chain {
	return []api.Chain{
		state(3, 2, 0, 0), state(1, 1, 1, 2, 1, 5), state(3, 1, 5, 6, 3, 1), state(3, 9, 5, 6, 5, 1), state(3, 9, 5, 7, 5, 1), state(3, 1, 5, 6, 5, 1), state(3, 2, 5, 6, 3, 1, 5, 2), state(3, 2, 5, 7, 3, 1, 5, 2), state(3, 2, 5, 6, 4, 1, 5, 2), state(3, 9, 5, 6, 4, 1, 5, 2), state(3, 3, 5, 6, 3, 1, 4, 2, 5, 3), state(3, 3, 5, 8, 3, 1, 4, 2, 5, 3), full(6), with(full(6), 1002, row(5, 995)...),
		state(3, 2, 5, 6, 2, 1), state(3, 2, 5, 6, 4, 1, 4, 2), state(3, 2, 5, 5, 5, 1), state(3, 2, 0, 0, 1, 5), state(3, 2, total, total+1, total, 1),
	}
}

// TestArguments checks that the links and the draws, and the memory before and behind them, stay as they are, and that this memory does not matter.
func TestArguments(t *testing.T) {
	odd := to(6, most, -5, 1, 6, 0, 0, 0)
	around := []int64{0, 1, 0, 1}
	for _, x := range argumentStates() {
		n := len(x.Links)
		links := slices.Concat(odd, x.Links, odd, odd)
		linksBefore := slices.Clone(links)
		for _, draws := range [][]int64{nil, {0}, {1}, {2}, {0, 2}, {1, 0}, {3, 0}, {0, -1}, {2, 1, 0, 2}, {0, 0, 1, 1, 0}} {
			k := len(draws)
			numbers := slices.Concat(around, draws, around)
			numbersBefore := slices.Clone(numbers)
			for i, call := range calls() {
				want := call(copied(x), slices.Clone(draws))
				for end := 4 + n; end <= len(links); end++ {
					x.Links = links[4 : 4+n : end]
					got := call(x, numbers[4:4+k:min(end-n+k, len(numbers))])
					if !got.equals(want) {
						t.Fatalf("call %d with %v and %v = %v, not %v", i, x, draws, got, want)
					}
					overwrite(got.x)
					if !slices.Equal(links, linksBefore) || !slices.Equal(numbers, numbersBefore) {
						t.Fatalf("call %d with %v and %v changed them, or what lies beside them, or shares it: %v, %v", i, x, draws, links, numbers)
					}
				}
			}
		}
	}
}

// TestBranches checks that the samples that were made from one do not disturb each other or the one that they came from.
func TestBranches(t *testing.T) {
	source := rand.New(rand.NewSource(21))
	ways := choices(source)
	for _, w := range windows() {
		root := state(w, 40, 0, 0)
		states, copies := []api.Chain{root}, []api.Chain{root}
		for range 3000 {
			from := states[len(states)-1-source.Intn(min(5, len(states)))]
			v := drawn(source)
			draws := chosen(t, from, v, nil, ways[source.Intn(len(ways))])
			before := slices.Clone(draws)
			to, _, err := Add(from, v, draws, 0)
			if !slices.Equal(draws, before) {
				t.Fatalf("the draws %v became %v", before, draws)
			}
			if err == api.OK {
				states, copies = append(states, to), append(copies, copied(to))
			}
		}
		if len(states) < 2500 {
			t.Errorf("w %d: only %d samples", w, len(states))
		}
		for i, x := range states {
			if !same(x, copies[i]) || !valid(x) {
				t.Fatalf("w %d: sample %d was %v and is %v", w, i, copies[i], x)
			}
		}
	}
}

// TestTwoOfOne makes two samples from each one of a stream, and goes on with both.
func TestTwoOfOne(t *testing.T) {
	source := rand.New(rand.NewSource(22))
	late := choices(source)[3]
	for _, w := range windows() {
		x := state(w, fullest, 0, 0)
		for range 100 {
			origin := copied(x)
			a, _, err := Add(x, 1, chosen(t, x, 1, nil, late), 0)
			if err != api.OK {
				break
			}
			first := copied(a)
			b, _, err := Add(x, -1, chosen(t, x, -1, nil, source.Int63n), 0)
			if err != api.OK {
				break
			}
			second := copied(b)
			c, _, _ := Add(a, 2, chosen(t, a, 2, nil, late), 0)
			d, _, _ := Add(a, 3, chosen(t, a, 3, nil, source.Int63n), 0)
			third, fourth := copied(c), copied(d)
			Add(b, 4, chosen(t, b, 4, nil, late), 0)
			for i, pair := range [][2]api.Chain{{x, origin}, {a, first}, {b, second}, {c, third}, {d, fourth}} {
				if !same(pair[0], pair[1]) {
					t.Fatalf("the sample %d was %v and is %v", i, pair[1], pair[0])
				}
			}
			x = a
		}
	}
}
