package spread

import (
	"math/big"
	"math/rand"
	"slices"
	"testing"

	"windowpane/api"
	"windowpane/bounds"
)

// stream is a histogram with all items that were added; the item i has the number i + 1.
type stream struct {
	x     api.Spread
	items []api.Item
	fast  bool // the calls are not compared with those of the model
}

// newStream returns an empty stream with these parameters.
func newStream(t *testing.T, w int64, k, size int, now int64) *stream {
	t.Helper()
	x, err := New(w, k, size, now)
	if err != api.OK {
		t.Fatalf("New(%d, %d, %d, %d) = %d", w, k, size, now, err)
	}
	return &stream{x: x}
}

// live returns the live items.
func (s *stream) live() []api.Item {
	i := len(s.items)
	for i > 0 && inWindow(s.items[i-1].T, s.x.Now, s.x.W) {
		i--
	}
	return s.items[i:]
}

// check holds the histogram against its items.
func (s *stream) check(t *testing.T) {
	t.Helper()
	if Validate(s.x) != api.OK || !valid(s.x) || s.x.Seq != int64(len(s.items)) {
		t.Fatalf("after %d items, %v is not valid", len(s.items), s.x)
	}
	b, err := Ask(s.x)
	if err != api.OK || !bounds.Valid(b) || b.Est != b.Lo {
		t.Fatalf("Ask(%v) = %v, %d", s.x, b, err)
	}
	lo, hi, v := big.NewRat(b.Lo.Num, b.Lo.Den), big.NewRat(b.Hi.Num, b.Hi.Den), new(big.Rat)
	if items := s.live(); len(items) > 0 {
		v, _ = deviation(mark(1, items))
	}
	if lo.Cmp(v) > 0 || v.Cmp(hi) > 0 {
		t.Fatalf("with a spread of %v, Ask(%v) = %v", v, s.x, b)
	}
	width := new(big.Rat).Sub(hi, lo)
	if width.Mul(width, big.NewRat(int64(s.x.K), 1)).Cmp(lo) > 0 {
		t.Fatalf("the answer of %v is too wide: %v", s.x, b)
	}
	if len(s.x.Marks) > limit(s.x.K, s.x.Cap) || len(s.x.Marks) > Most(s.x.K, s.x.Cap) {
		t.Fatalf("%v has too many marks", s.x)
	}
}

// checkMarks holds the marks against the items from them on.
func (s *stream) checkMarks(t *testing.T) {
	t.Helper()
	for _, m := range s.x.Marks {
		if want := mark(m.Seq, s.items[m.Seq-1:]); m != want {
			t.Fatalf("the mark %v is not %v", m, want)
		}
	}
}

// add adds a value, if the histogram takes it.
func (s *stream) add(t *testing.T, v int64) bool {
	t.Helper()
	if !s.fast {
		checkAdd(t, s.x, v)
	}
	y, err := Add(s.x, v)
	if err == api.OK {
		s.x, s.items = y, append(s.items, api.Item{T: s.x.Now, V: v})
		return true
	}
	if err != api.ErrFull || s.x.Marks[0].N != int64(s.x.Cap) {
		t.Fatalf("Add(%v, %d) = %d", s.x, v, err)
	}
	return false
}

func (s *stream) advance(t *testing.T, now int64) {
	t.Helper()
	checkAdvance(t, s.x, now)
	s.x = moved(t, s.x, now)
}

// sorts is the number of sorts of values.
const sorts = 7

// drawn returns a value of a sort: from a few values, from many, equal ones, ones of different sizes, or one of the least and the greatest.
func drawn(source *rand.Rand, sort int) int64 {
	v := []int64{source.Int63n(2), source.Int63n(10), source.Int63n(highest + 1), highest * source.Int63n(2), highest >> source.Intn(14), 7, 1000 + source.Int63n(3)}[sort]
	if sort < 5 && source.Intn(2) == 0 {
		return -v
	}
	return v
}

// TestStreams adds values and moves the clock at random.
func TestStreams(t *testing.T) {
	source := rand.New(rand.NewSource(23))
	seen := map[bool]int{}
	gaps := 0
	for round := range 150 {
		w := 1 + source.Int63n(40)
		k := []int{1, 1, 2, 3, 17, finest}[source.Intn(6)]
		start := []int64{0, 0, source.Int63n(100), last - 300}[source.Intn(4)]
		s := newStream(t, w, k, 1+source.Intn(150), start)
		for range 200 {
			switch source.Intn(4) {
			case 0:
				step := max(0, source.Int63n(6)-3)
				if source.Intn(20) == 0 {
					step = w - 2 + source.Int63n(4)
				}
				s.advance(t, min(last, s.x.Now+max(0, step)))
			default:
				seen[s.add(t, drawn(source, round%sorts))]++
			}
			s.check(t)
			s.checkMarks(t)
			if b, _ := Ask(s.x); b.Lo != b.Hi {
				gaps++
			}
		}
	}
	if seen[true] < 10000 || seen[false] < 500 || gaps < 500 {
		t.Errorf("the results are too much alike: %v, %d answers that are not exact", seen, gaps)
	}
}

// TestLongStreams adds many items to histograms of the greatest capacity, at first more of them at one tick than later.
func TestLongStreams(t *testing.T) {
	for _, k := range []int{1, 2, 5, finest} {
		source := rand.New(rand.NewSource(24))
		s := newStream(t, 500, k, fullest, last-8000)
		s.fast = true
		gaps := 0
		for i := range int64(4900) {
			if i%400 >= min(300, i/5) {
				s.x = moved(t, s.x, s.x.Now+1)
			}
			s.add(t, drawn(source, int(i/700)))
			if b, _ := Ask(s.x); b.Lo != b.Hi {
				gaps++
			}
			if i%37 == 0 {
				s.check(t)
				s.checkMarks(t)
			}
		}
		for s.x.Now < last {
			s.x = moved(t, s.x, min(last, s.x.Now+53))
			s.check(t)
		}
		if n := len(s.x.Marks); n != 0 {
			t.Fatalf("at the last tick, there are %d marks", n)
		}
		if k < 10 && gaps < 500 {
			t.Errorf("k %d: only %d answers are not exact", k, gaps)
		}
	}
}

// TestGreatestStream fills a histogram of the greatest capacity with the greatest values.
func TestGreatestStream(t *testing.T) {
	x, _ := New(longest, 1, fullest, last-1)
	for i := range int64(fullest) {
		y, err := Add(x, highest-2*highest*(i%2))
		if err != api.OK {
			t.Fatalf("Add of item %d = %d", i, err)
		}
		x = y
	}
	if !valid(x) || len(x.Marks) > limit(1, fullest) {
		t.Fatalf("%v is not valid", x)
	}
	asked(t, "all", x, answer(1<<40, 1, 1<<40, 1))
	got, err := Add(x, 0)
	step(t, "Add behind the greatest capacity", got, err, api.ErrFull, api.Spread{})
	checkAdvance(t, x, last)
}

// TestManyMarks lets the values fall, so that a histogram needs many marks, though never more than Most.
func TestManyMarks(t *testing.T) {
	for _, c := range []struct{ k, few int }{{1, 150}, {2, 300}, {5, 800}, {finest, 1200}} {
		s := newStream(t, 10, c.k, fullest, 0)
		s.fast = true
		size := float64(highest)
		for i := range 1300 {
			v := int64(size)
			if i%2 == 0 {
				v = -v
			}
			s.add(t, v)
			size = max(1, size*(1-1/(22*float64(c.k))))
			if i%50 == 0 {
				s.check(t)
			}
		}
		s.check(t)
		s.checkMarks(t)
		if len(s.x.Marks) < c.few {
			t.Errorf("k %d: %d marks", c.k, len(s.x.Marks))
		}
	}
}

// TestSmallStreams makes all short sequences of a few values and ticks behind some values, of which the first one leaves first, and holds the answers against the deviations from the mean.
func TestSmallStreams(t *testing.T) {
	wide := 0
	var extend func(s stream, depth int)
	extend = func(s stream, depth int) {
		s.check(t)
		lo, hi := ends(s.x)
		if v := truth(s.live()); lo.Cmp(v) > 0 || v.Cmp(hi) > 0 {
			t.Fatalf("with a spread of %v, %v answers %v to %v", v, s.x, lo, hi)
		}
		if lo.Cmp(hi) < 0 {
			wide++
		}
		if depth == 0 {
			return
		}
		for _, v := range []int64{0, 1, -3} {
			next := stream{x: s.x, items: slices.Clone(s.items)}
			if next.add(t, v) {
				extend(next, depth-1)
			}
		}
		next := stream{x: s.x, items: s.items}
		next.advance(t, s.x.Now+1)
		extend(next, depth-1)
	}
	for _, before := range [][]int64{nil, ones(5), often(12, 1), then(often(12, 0, 1), vals(0))} {
		for k := 1; k <= 2; k++ {
			s := newStream(t, 2, k, len(before)+5, 0)
			for i, v := range before {
				if i == 1 {
					s.advance(t, 1)
				}
				s.add(t, v)
			}
			extend(*s, 6)
		}
	}
	if wide < 100 {
		t.Errorf("only %d answers are not exact", wide)
	}
}

// TestMarksThatNoItemsHave calls all functions with valid states whose marks fit no items, and holds the results to the conditions.
func TestMarksThatNoItemsHave(t *testing.T) {
	source := rand.New(rand.NewSource(25))
	states, move := validStates(), movers()
	odd := 0
	for odd < 5000 {
		x := copied(states[source.Intn(len(states))])
		if len(x.Marks) < 2 || x.Marks[0].N > 100 {
			continue
		}
		for range 1 + source.Intn(4) {
			move[3+source.Intn(4)](&x.Marks[source.Intn(len(x.Marks)-1)], source.Int63n(9)-4)
		}
		if !valid(x) {
			continue
		}
		odd++
		checkAsk(t, x)
		checkAdvance(t, x, x.Now+source.Int63n(4))
		v := drawn(source, source.Intn(sorts))
		checkAdd(t, x, v)
		if b, err := Ask(x); err != api.OK || !bounds.Valid(b) {
			t.Fatalf("Ask(%v) = %v, %d", x, b, err)
		}
		if y, err := Add(x, v); err == api.OK && (!valid(y) || Validate(y) != api.OK) {
			t.Fatalf("Add(%v, %d) = %v, which breaks %v", x, v, y, broken(y))
		}
	}
}

// call is a call with a state; results that the function does not have are zero.
type call func(x api.Spread) (api.Spread, api.Bounds, api.Errno)

// calls returns all calls with a state.
func calls() []call {
	all := []call{
		func(x api.Spread) (api.Spread, api.Bounds, api.Errno) { return api.Spread{}, api.Bounds{}, Validate(x) },
		func(x api.Spread) (api.Spread, api.Bounds, api.Errno) {
			answer, err := Ask(x)
			return api.Spread{}, answer, err
		},
	}
	for _, now := range []int64{5, 6, 7, 8, 9, last, last + 1, -1} {
		all = append(all, func(x api.Spread) (api.Spread, api.Bounds, api.Errno) {
			y, err := Advance(x, now)
			return y, api.Bounds{}, err
		})
	}
	for _, v := range []int64{-highest - 1, -1, 0, 1, 9, highest, highest + 1} {
		all = append(all, func(x api.Spread) (api.Spread, api.Bounds, api.Errno) {
			y, err := Add(x, v)
			return y, api.Bounds{}, err
		})
	}
	return all
}

// argumentStates returns valid states with a few marks, and some that are not valid.
func argumentStates() []api.Spread {
	list := []api.Spread{base(0), base(7), base(-1)}
	for i, s := range validShapes() {
		list = append(list, s.state(3, 9999, 1), s.state(3-int64(min(1, len(s.places)-1)), 9999, i%2))
	}
	for condition := 1; condition <= 5; condition++ {
		for i, x := range oneBroken()[condition] {
			if i%11 == 0 {
				list = append(list, x)
			}
		}
	}
	return list
}

// TestArguments checks that the marks, and the memory before and behind them, stay as they are, and that this memory does not matter.
func TestArguments(t *testing.T) {
	for _, x := range argumentStates() {
		n := len(x.Marks)
		odd := []api.Mark{alike(9, 1, 5, 3), {Seq: 7, T: -4, N: most, S: 5}, alike(8, 3, 2, 1)}
		memory := slices.Concat(odd, x.Marks, odd, odd)
		before := slices.Clone(memory)
		for i, call := range calls() {
			want, answer, why := call(copied(x))
			for end := 3 + n; end <= len(memory); end++ {
				x.Marks = memory[3 : 3+n : end]
				got, b, err := call(x)
				if !same(got, want) || b != answer || err != why {
					t.Fatalf("call %d with %v = %v, %v, %d, not %v, %v, %d", i, x, got, b, err, want, answer, why)
				}
				// The result is new memory.
				for j := range got.Marks[:cap(got.Marks)] {
					got.Marks[:cap(got.Marks)][j].S++
				}
				if !slices.Equal(memory, before) {
					t.Fatalf("call %d with %v changed it, or what lies beside it, or shares it: %v", i, x, memory)
				}
			}
		}
	}
}

// TestBranches checks that the histograms that were made from one do not disturb each other or the one that they came from.
func TestBranches(t *testing.T) {
	source := rand.New(rand.NewSource(26))
	for sort := range sorts {
		for _, k := range []int{1, 2} {
			root := empty(20, k, 90, 0, 0)
			states, copies := []api.Spread{root}, []api.Spread{root}
			for range 1500 {
				from := states[len(states)-1-source.Intn(min(9, len(states)))]
				to, err := Add(from, drawn(source, sort))
				if source.Intn(5) == 0 {
					to, err = Advance(from, from.Now+source.Int63n(3))
				}
				if err == api.OK {
					states, copies = append(states, to), append(copies, copied(to))
				}
			}
			for i, x := range states {
				if !same(x, copies[i]) {
					t.Fatalf("sort %d, k %d: histogram %d was %v and is %v", sort, k, i, copies[i], x)
				}
				if !valid(x) {
					t.Fatalf("sort %d, k %d: histogram %d is not valid: %v", sort, k, i, x)
				}
			}
		}
	}
}

// TestTwoOfOne makes several histograms from each one of a stream, by all calls.
func TestTwoOfOne(t *testing.T) {
	for k := 1; k <= 3; k++ {
		x := empty(30, k, 999, 0, 0)
		for n := range int64(60) {
			x = moved(t, x, n)
			origin := copied(x)
			stay, next := moved(t, x, n), moved(t, x, n+3)
			a, b, c, d := added(t, x, n%10), added(t, x, 9), added(t, next, 1), added(t, stay, 2, 3)
			e, f := added(t, next, 5), moved(t, a, n+7)
			first := included(origin, n%10)
			for i, p := range []struct{ got, want api.Spread }{{x, origin}, {stay, origin}, {next, later(origin, n+3)}, {a, first}, {b, included(origin, 9)}, {c, included(later(origin, n+3), 1)}, {d, included(included(origin, 2), 3)}, {e, included(later(origin, n+3), 5)}, {f, later(first, n+7)}} {
				if !same(p.got, p.want) {
					t.Fatalf("k %d, at tick %d: histogram %d is %v, not %v", k, n, i, p.got, p.want)
				}
			}
			x = a
			if n%7 == 0 {
				x = added(t, x, 1, 1, 1, 1)
			}
		}
	}
}
