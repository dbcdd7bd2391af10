package spread

import (
	"math/rand"
	"slices"
	"testing"

	"windowpane/api"
)

// checkNew compares New, and Validate of the empty histogram, with what the chapter says.
func checkNew(t *testing.T, w int64, k, cap int, now int64) bool {
	t.Helper()
	x := api.Spread{W: w, K: k, Cap: cap, Now: now}
	want, why := x, api.OK
	if !window(w) || !fine(k) || !size(cap) || !tick(now) {
		want, why = api.Spread{}, api.ErrArg
	}
	if got, err := New(w, k, cap, now); !same(got, want) || err != why {
		t.Errorf("New(%d, %d, %d, %d) = %v, %d", w, k, cap, now, got, err)
	}
	if err := Validate(x); err != code(why == api.OK) {
		t.Errorf("Validate(%v) = %d", x, err)
	}
	return why == api.OK
}

func TestNew(t *testing.T) {
	wide := []int64{least, -1, 0, 1, 2, 5, longest - 1, longest, longest + 1, 1<<32 + 1, most}
	ticks := []int64{least, -last, -1, 0, 1, 7, last - 1, last, last + 1, 1 << 32, most}
	fines := []int{least, -1, 0, 1, 2, finest - 1, finest, finest + 1, 2 * finest, 1<<32 + 1, most}
	sizes := []int{least, -1, 0, 1, 2, fullest - 1, fullest, fullest + 1, 1<<32 + 1, most}
	seen := map[bool]int{}
	for _, w := range wide {
		for _, k := range fines {
			for _, n := range sizes {
				for _, now := range ticks {
					seen[checkNew(t, w, k, n, now)]++
				}
			}
		}
	}
	for _, n := range edges() {
		checkNew(t, n, 2, 9, 5)
		checkNew(t, 3, int(n), 9, 5)
		checkNew(t, 3, 2, int(n), 5)
		checkNew(t, 3, 2, 9, n)
	}
	if seen[true] < 300 || seen[false] < 10000 {
		t.Errorf("the results are too much alike: %v", seen)
	}
}

// TestNewAtTheLimits writes the limits out, one by one and all together.
func TestNewAtTheLimits(t *testing.T) {
	for i, c := range []struct {
		w      int64
		k, cap int
		now    int64
		why    api.Errno
	}{
		{1, 1, 1, 0, api.OK}, {1048576, 64, 65536, 16777216, api.OK}, {1048576, 1, 1, 0, api.OK}, {1, 64, 1, 0, api.OK}, {1, 1, 65536, 0, api.OK}, {1, 1, 1, 16777216, api.OK}, {10, 3, 100, 7, api.OK},
		{0, 1, 1, 0, api.ErrArg}, {1048577, 1, 1, 0, api.ErrArg}, {1, 0, 1, 0, api.ErrArg}, {1, 65, 1, 0, api.ErrArg}, {1, 1, 0, 0, api.ErrArg}, {1, 1, 65537, 0, api.ErrArg}, {1, 1, 1, -1, api.ErrArg}, {1, 1, 1, 16777217, api.ErrArg}, {0, 0, 0, -1, api.ErrArg},
	} {
		x, err := New(c.w, c.k, c.cap, c.now)
		want := empty(c.w, c.k, c.cap, c.now, 0)
		if c.why != api.OK {
			want = api.Spread{}
		}
		if err != c.why || !same(x, want) {
			t.Errorf("case %d: New = %v, %d", i, x, err)
		}
		if err == api.OK {
			asked(t, "the empty histogram", x, answer(0, 1, 0, 1))
		}
	}
}

// checkValid compares Validate with what the chapter says.
func checkValid(t *testing.T, x api.Spread) bool {
	t.Helper()
	want := valid(x)
	if err := Validate(x); err != code(want) {
		t.Fatalf("Validate(%v) = %d", x, err)
	}
	return want
}

func TestValidate(t *testing.T) {
	for i, x := range validStates() {
		if err := Validate(x); err != api.OK || !valid(x) {
			t.Errorf("valid state %d: Validate(%v) = %d; it breaks %v", i, x, err, broken(x))
		}
	}
	for i, x := range invalidStates() {
		if err := Validate(x); err != api.ErrState || valid(x) {
			t.Errorf("invalid state %d: Validate(%v) = %d", i, x, err)
		}
	}
	for condition, states := range oneBroken() {
		for i, x := range states {
			if !framed(x) || !slices.Equal(broken(x), []int{condition}) {
				t.Errorf("state %d breaks not only condition %d, but %v: %v", i, condition, broken(x), x)
			}
		}
	}
}

// setters returns functions that set one number of a mark each, and movers those that move it.
func setters() []func(m *api.Mark, n int64) {
	return []func(m *api.Mark, n int64){
		func(m *api.Mark, n int64) { m.Seq = n }, func(m *api.Mark, n int64) { m.T = n }, func(m *api.Mark, n int64) { m.N = n }, func(m *api.Mark, n int64) { m.S = n }, func(m *api.Mark, n int64) { m.Q = n }, func(m *api.Mark, n int64) { m.Min = n }, func(m *api.Mark, n int64) { m.Max = n },
	}
}

func movers() []func(m *api.Mark, n int64) {
	return []func(m *api.Mark, n int64){
		func(m *api.Mark, n int64) { m.Seq += n }, func(m *api.Mark, n int64) { m.T += n }, func(m *api.Mark, n int64) { m.N += n }, func(m *api.Mark, n int64) { m.S += n }, func(m *api.Mark, n int64) { m.Q += n }, func(m *api.Mark, n int64) { m.Min += n }, func(m *api.Mark, n int64) { m.Max += n },
	}
}

// TestValidateAroundTheLimits changes one number of a valid state.
func TestValidateAroundTheLimits(t *testing.T) {
	seen := map[bool]int{}
	for _, x := range someStates() {
		for _, n := range edges() {
			for i := range x.Marks {
				for _, set := range append(setters(), movers()...) {
					seen[checkValid(t, changed(x, i, func(m *api.Mark) { set(m, n) }))]++
				}
			}
			now, seq := x, x
			now.Now, seq.Seq = n, n
			for _, y := range []api.Spread{now, seq, with(x, n, x.K, x.Cap), with(x, x.W, int(n), x.Cap), with(x, x.W, x.K, int(n))} {
				seen[checkValid(t, y)]++
			}
		}
	}
	if seen[true] < 1500 || seen[false] < 50000 {
		t.Errorf("the results are too much alike: %v", seen)
	}
}

// TestValidateOfManyChanges changes several numbers of valid states by a little, at random, and removes marks.
func TestValidateOfManyChanges(t *testing.T) {
	source := rand.New(rand.NewSource(22))
	states, move := validStates(), movers()
	seen := map[bool]int{}
	for range 100000 {
		x := copied(states[source.Intn(len(states))])
		for range 1 + source.Intn(3) {
			if len(x.Marks) == 0 {
				break
			}
			i := source.Intn(len(x.Marks))
			if source.Intn(6) == 0 {
				x.Marks = slices.Delete(x.Marks, i, i+1)
				continue
			}
			move[source.Intn(len(move))](&x.Marks[i], source.Int63n(9)-4)
		}
		seen[checkValid(t, x)]++
	}
	if seen[true] < 10000 || seen[false] < 30000 {
		t.Errorf("the results are too much alike: %v", seen)
	}
}

// TestStateFirst checks that an invalid state is answered with ErrState, whatever the other arguments are.
func TestStateFirst(t *testing.T) {
	for i, x := range invalidStates() {
		for _, n := range []int64{x.Now, x.Now - 1, x.Now + 1, 0, 1, 5, highest, highest + 1, -highest, -highest - 1, last, last + 1, -1, least, most} {
			if got, err := Advance(x, n); err != api.ErrState || !same(got, api.Spread{}) {
				t.Errorf("invalid state %d: Advance to %d = %v, %d", i, n, got, err)
			}
			if got, err := Add(x, n); err != api.ErrState || !same(got, api.Spread{}) {
				t.Errorf("invalid state %d: Add of %d = %v, %d", i, n, got, err)
			}
		}
		if got, err := Ask(x); err != api.ErrState || got != (api.Bounds{}) {
			t.Errorf("invalid state %d: Ask = %v, %d", i, got, err)
		}
	}
}

// answer writes an answer whose estimate is its lower end.
func answer(lo, loDen, hi, hiDen int64) api.Bounds {
	a, b := api.Ratio{Num: lo, Den: loDen}, api.Ratio{Num: hi, Den: hiDen}
	return api.Bounds{Lo: a, Est: a, Hi: b}
}

// asked checks an answer.
func asked(t *testing.T, name string, x api.Spread, want api.Bounds) {
	t.Helper()
	if got, err := Ask(x); err != api.OK || got != want {
		t.Fatalf("%s: Ask(%v) = %v, %d, not %v", name, x, got, err, want)
	}
}

// step checks the result of a call.
func step(t *testing.T, name string, got api.Spread, err, why api.Errno, want api.Spread) {
	t.Helper()
	if err != why || !same(got, want) {
		t.Fatalf("%s = %v, %d, not %v, %d", name, got, err, want, why)
	}
}

// added returns the state after these values.
func added(t *testing.T, x api.Spread, values ...int64) api.Spread {
	t.Helper()
	for _, v := range values {
		y, err := Add(x, v)
		if err != api.OK {
			t.Fatalf("Add(%v, %d) = %d", x, v, err)
		}
		x = y
	}
	return x
}

// moved returns the state at a later tick.
func moved(t *testing.T, x api.Spread, now int64) api.Spread {
	t.Helper()
	y, err := Advance(x, now)
	if err != api.OK {
		t.Fatalf("Advance(%v, %d) = %d", x, now, err)
	}
	return y
}

// checkAdvance compares Advance with what the chapter says.
func checkAdvance(t *testing.T, x api.Spread, now int64) {
	t.Helper()
	want, why := api.Spread{}, code(valid(x))
	if why == api.OK && (now < x.Now || now > last) {
		why = api.ErrTime
	}
	if why == api.OK {
		want = later(x, now)
	}
	if got, err := Advance(x, now); !same(got, want) || err != why {
		t.Fatalf("Advance(%v, %d) = %v, %d, not %v, %d", x, now, got, err, want, why)
	}
}

// checkAdd compares Add with what the chapter says.
func checkAdd(t *testing.T, x api.Spread, v int64) {
	t.Helper()
	want, why := api.Spread{}, code(valid(x))
	if why == api.OK && !value(v) {
		why = api.ErrRange
	}
	if why == api.OK && (x.Seq > final-1 || len(x.Marks) > 0 && x.Marks[0].N > int64(x.Cap)-1) {
		why = api.ErrFull
	}
	if why == api.OK {
		want = included(x, v)
	}
	if got, err := Add(x, v); !same(got, want) || err != why {
		t.Fatalf("Add(%v, %d) = %v, %d, not %v, %d", x, v, got, err, want, why)
	}
}

// checkAsk compares Ask with what the chapter says.
func checkAsk(t *testing.T, x api.Spread) {
	t.Helper()
	want, why := api.Bounds{}, code(valid(x))
	if why == api.OK {
		want = answerOf(ends(x))
	}
	if got, err := Ask(x); got != want || err != why {
		t.Fatalf("Ask(%v) = %v, %d, not %v, %d", x, got, err, want, why)
	}
}

// numbers returns the numbers of items of the marks.
func numbers(x api.Spread) []int64 {
	var list []int64
	for _, m := range x.Marks {
		list = append(list, m.N)
	}
	return list
}

// TestExamples follows the chapter's examples, and their neighbours.
func TestExamples(t *testing.T) {
	x, err := New(10, 1, 100, 0)
	step(t, "New", x, err, api.OK, empty(10, 1, 100, 0, 0))
	asked(t, "nothing", x, answer(0, 1, 0, 1))
	x = added(t, x, 1)
	asked(t, "1", x, answer(0, 1, 0, 1))
	x = added(t, x, 2)
	asked(t, "1, 2", x, answer(1, 2, 1, 2))
	x = added(t, x, 6)
	step(t, "1, 2, 6", x, api.OK, api.OK, marked(empty(10, 1, 100, 0, 3), its(0, 1, 0, 2, 0, 6), 0, 1, 2))
	asked(t, "1, 2, 6", x, answer(14, 1, 14, 1))
	// With equal values, only the numbers decide.
	y, down := empty(10, 1, 100, 0, 0), vals(9, 8, 7, 6, 5, 4, 3, 2, 1)
	for i, want := range [][]int64{{12, 10}, {13, 11, 10}, {14, 12, 10}, {15, 13, 11, 10}, {16, 14, 12, 10}, {17, 15, 13, 11, 10}, {18, 16, 14, 12, 10}, {19, 17, 15, 13, 11, 10}, {20, 18, 16, 14, 12, 10}, {21, 19, 17, 15, 13, 11, 10}, {22, 20, 18, 16, 14, 12, 10}, {23, 21, 19, 17, 15, 13, 11, 10}, {24, 20, 18, 16, 14, 12, 10}} {
		for y.Seq < int64(i)+12 {
			y = added(t, y, 5)
		}
		if got := numbers(y); !slices.Equal(got, then(want, down)) {
			t.Errorf("after %d items, N is %v, not %v and %v", y.Seq, got, want, down)
		}
		asked(t, "equal values", y, answer(0, 1, 0, 1))
	}
}

func TestAdvance(t *testing.T) {
	four := marked(empty(3, 1, 9, 5, 5), its(2, 1, 3, 2, 3, 3, 4, 4, 5, 5), 0, 2, 3, 4)
	equal := marked(empty(3, 1, 9, 5, 9), its(3, 9, 3, 4, 3, 2, 5, 1, 5, 0), 0, 1, 2, 3, 4)
	width := marked(empty(10, 1, 9, 10, final), its(2, 9, 3, 0, 8, 5, 10, 1), 0, 1, 2, 3)
	one := func(w, at, now int64) api.Spread { return marked(empty(w, 1, 1, now, 2), its(at, 4), 0) }
	two := func(w, a, b, now int64) api.Spread { return marked(empty(w, 1, 2, now, 2), its(a, 4, b, 9), 0, 1) }
	for _, c := range []struct {
		x    api.Spread
		now  int64
		from int // the first mark that stays
	}{
		// By nothing, by one tick, by a window and by more, to the last tick.
		{four, 5, 0}, {four, 6, 1}, {four, 7, 2}, {four, 8, 4}, {four, 9, 4}, {four, last, 4},
		// Equal ticks: the first mark stays as long as the second one is not live.
		{equal, 5, 0}, {equal, 6, 2}, {equal, 7, 2}, {equal, 8, 5}, {equal, last, 5}, {holding(equal, equal.Marks[4:]...), 7, 0}, {holding(equal, equal.Marks[4:]...), 8, 1}, {holding(equal, equal.Marks[3:]...), 7, 0}, {holding(equal, equal.Marks[3:]...), 8, 2},
		// No mark, one and several go; the first mark that stays is live and not.
		{width, 10, 0}, {width, 11, 0}, {width, 12, 0}, {width, 13, 1}, {width, 14, 1}, {width, 17, 1}, {width, 18, 2}, {width, 19, 2}, {width, 20, 4}, {width, last, 4},
		// Nothing has to leave the empty histogram.
		{base(0), 5, 0}, {base(7), 6, 0}, {base(final), 8, 0}, {base(0), last, 0}, {empty(3, 1, 1, last, 0), last, 0}, {empty(longest, finest, fullest, 5, 9), last, 0},
		// A single mark is live for the last tick, and has just left.
		{one(3, 5, 5), 7, 0}, {one(3, 5, 5), 8, 1}, {one(3, 3, 5), 5, 0}, {one(3, 3, 5), 6, 1}, {one(3, 0, 0), 2, 0}, {one(3, 0, 0), 3, 1},
		// The second mark of two is live for the last tick, and has just left.
		{two(3, 2, 3, 5), 5, 0}, {two(3, 2, 3, 5), 6, 2}, {two(3, 4, 5, 5), 7, 0}, {two(3, 4, 5, 5), 8, 2},
		// A window of 1 and the longest one, with the first and the last tick.
		{two(1, 5, 5, 5), 5, 0}, {two(1, 5, 5, 5), 6, 2}, {one(1, last-1, last-1), last, 1}, {one(1, last, last), last, 0}, {two(longest, 0, 1, 1), longest - 1, 0}, {two(longest, 0, 1, 1), longest, 0}, {two(longest, 0, 1, 1), longest + 1, 2}, {one(longest, 0, 0), longest - 1, 0}, {one(longest, 0, 0), longest, 1}, {two(longest, last-longest, last-longest, last-longest), last, 2}, {two(longest, last-longest, last-longest+1, last-longest+1), last, 0},
	} {
		want := holding(c.x, c.x.Marks[c.from:]...)
		want.Now = c.now
		got, err := Advance(c.x, c.now)
		if err != api.OK || !same(got, want) {
			t.Errorf("Advance(%v, %d) = %v, %d", c.x, c.now, got, err)
		}
		checkAdvance(t, c.x, c.now)
		checkAsk(t, got)
		checkAdd(t, got, highest)
	}
}

func TestAdvanceErrors(t *testing.T) {
	for _, x := range someStates() {
		for _, now := range edges() {
			checkAdvance(t, x, now)
		}
		for _, now := range []int64{x.Now - 1, -1, least, least + x.Now, last + 1, last + 2, most, 1<<32 + x.Now} {
			if got, err := Advance(x, now); err != api.ErrTime || !same(got, api.Spread{}) {
				t.Errorf("Advance(%v, %d) = %v, %d", x, now, got, err)
			}
		}
	}
}

func TestAdd(t *testing.T) {
	falling := then(vals(1000, 500, 250, 125, 60), often(49, 0))
	for _, c := range []struct {
		s     shape
		v     int64
		stays []int // the places of the marks that stay, of the value's too
	}{
		// To the mark of one item: no mark goes.
		{shape{1, vals(0), at(0)}, 0, at(0, 1)}, {shape{1, vals(0), at(0)}, highest, at(0, 1)}, {shape{finest, vals(highest), at(0)}, -highest, at(0, 1)}, {shape{1, vals(-highest), at(0)}, -highest, at(0, 1)}, {shape{1, vals(5), at(0)}, 0, at(0, 1)},
		// To several marks: no mark goes, though some numbers or some spreads are close.
		{shape{1, vals(1, 2), at(0, 1)}, 6, at(0, 1, 2)}, {shape{1, often(10, 5), upTo(0, 9)}, 5, upTo(0, 10)}, {shape{1, often(12, 5), upTo(2, 11, 0)}, 5, upTo(2, 12, 0)}, {shape{2, often(22, 0), at(0, 1, 2, 21)}, 0, at(0, 1, 2, 21, 22)}, {shape{finest, often(766, 7), at(0, 1, 2, 765)}, 7, at(0, 1, 2, 765, 766)}, {shape{1, vals(1, 2, 3, 4, 5, 6, 7, 8, 9, 10, 11), upTo(0, 10)}, 12, upTo(0, 11)}, {shape{1, falling, at(0, 1, 2, 3, 4, 53)}, 0, at(0, 1, 2, 3, 4, 53, 54)}, {shape{1, then(vals(1, -1), ones(4), often(6, 0)), at(0, 1, 2, 15)}, 1, at(0, 1, 2, 15, 16)}, {shape{finest, then(vals(1, -1), ones(382), often(4, 0)), at(0, 1, 2, 769)}, -1, at(0, 1, 2, 769, 770)},
		// The numbers become just close: the second mark goes, or a later one.
		{shape{1, often(11, 5), upTo(0, 10)}, 5, upTo(2, 11, 0)}, {shape{1, often(11, -highest), at(0, 1, 2, 10)}, -highest, at(0, 2, 10, 11)}, {shape{2, often(23, 0), at(0, 1, 2, 22)}, 0, at(0, 2, 22, 23)}, {shape{finest, often(767, 7), at(0, 1, 2, 766)}, 7, at(0, 2, 766, 767)}, {shape{1, often(13, 5), upTo(3, 12, 0, 2)}, 5, upTo(4, 13, 0, 2)}, {shape{1, often(29, 0), at(0, 18, 19, 20, 28)}, 0, at(0, 18, 20, 28, 29)},
		// The spreads become just close.
		{shape{1, then(vals(1, -1), ones(4), often(6, 0)), at(0, 1, 2, 15)}, 2, at(0, 2, 15, 16)}, {shape{1, then(vals(1, -1), ones(4), often(6, 0)), at(0, 1, 2, 15)}, -2, at(0, 2, 15, 16)}, {shape{finest, then(vals(1, -1), ones(382), often(4, 0)), at(0, 1, 2, 769)}, 2, at(0, 2, 769, 770)}, {shape{1, then(vals(77, -77), often(30, 0)), at(0, 1, 2, 31)}, highest, at(0, 2, 31, 32)},
		// Several in a row go.
		{shape{1, falling, at(0, 1, 2, 3, 4, 53)}, highest, at(0, 4, 53, 54)}, {shape{1, falling, at(0, 1, 2, 3, 4, 53)}, -highest, at(0, 4, 53, 54)}, {shape{1, falling, at(0, 1, 2, 3, 4, 53)}, -1000, at(0, 1, 2, 4, 53, 54)}, {shape{1, falling, at(0, 2, 3, 4, 53)}, 600, at(0, 2, 4, 53, 54)},
		// Several at different places go.
		{shape{1, often(23, 0), upTo(12, 22, 0, 2, 4)}, 0, upTo(14, 23, 0, 4, 12)}, {shape{2, often(47, 9), at(0, 2, 4, 24, 25, 26, 46)}, 9, at(0, 4, 24, 26, 46, 47)},
	} {
		for _, first := range []int64{3, 2, 0} {
			if len(c.s.places) == 1 && first < 3 {
				continue
			}
			for _, seq := range []int64{int64(len(c.s.values)), final - 1} {
				for room := 1; room <= 2; room++ {
					x := c.s.state(first, seq, room)
					want := x
					want.Seq++
					want = marked(want, append(c.s.timed(first), api.Item{T: 5, V: c.v}), c.stays...)
					if got, err := Add(x, c.v); err != api.OK || !same(got, want) {
						t.Fatalf("Add(%v, %d) = %v, %d, not %v", x, c.v, got, err, want)
					}
					checkAdd(t, x, c.v)
				}
			}
		}
	}
}

// TestAddErrors adds values that are out of range, which is looked at first, and values for which there is no room.
func TestAddErrors(t *testing.T) {
	for _, x := range someStates() {
		for _, v := range []int64{-highest - 1, -highest - 2, -2 * highest, -fullest, least, least + 1, highest + 1, highest + 2, fullest, 1 << 32, 1<<32 + 1, 1 << 62, most - 1, most} {
			if got, err := Add(x, v); err != api.ErrRange || !same(got, api.Spread{}) {
				t.Errorf("Add(%v, %d) = %v, %d", x, v, got, err)
			}
		}
		full := x.Seq == final || len(x.Marks) > 0 && x.Marks[0].N == int64(x.Cap)
		for _, v := range []int64{-highest, -1, 0, 1, highest} {
			checkAdd(t, x, v)
			if got, err := Add(x, v); full && (err != api.ErrFull || !same(got, api.Spread{})) {
				t.Errorf("Add(%v, %d) = %v, %d", x, v, got, err)
			}
		}
	}
}

// TestValues adds the least and the greatest values, and the numbers next to them, to the empty histogram.
func TestValues(t *testing.T) {
	for v, why := range map[int64]api.Errno{-4096: api.OK, -4095: api.OK, -1: api.OK, 0: api.OK, 1: api.OK, 4095: api.OK, 4096: api.OK, -4097: api.ErrRange, 4097: api.ErrRange, least: api.ErrRange, most: api.ErrRange} {
		want := marked(base(7), its(5, v), 0)
		if why != api.OK {
			want = api.Spread{}
		}
		got, err := Add(base(6), v)
		step(t, "Add", got, err, why, want)
		// The sequence numbers have come to their end: the range is looked at first.
		if why == api.OK {
			why = api.ErrFull
		}
		got, err = Add(base(final), v)
		step(t, "Add after the last item", got, err, why, api.Spread{})
	}
}

// TestFull adds to full histograms, which still answer and move.
func TestFull(t *testing.T) {
	for _, x := range []api.Spread{marked(empty(3, 1, 1, 5, 7), its(5, 0), 0), marked(empty(3, 1, 2, 5, 7), its(2, 0, 3, 0), 0, 1), marked(empty(3, 2, 3, 5, 3), its(2, 9, 3, 3, 5, 0), 0, 1, 2), filled(), base(final), marked(base(final), its(5, 0), 0), marked(empty(3, 1, 1, 5, final), its(5, highest), 0)} {
		for _, v := range []int64{0, 1, highest, -highest} {
			got, err := Add(x, v)
			step(t, "Add to a full histogram", got, err, api.ErrFull, api.Spread{})
		}
		for _, v := range []int64{-highest - 1, highest + 1, least, most} {
			got, err := Add(x, v)
			step(t, "Add of a wrong value to a full histogram", got, err, api.ErrRange, api.Spread{})
		}
		checkAsk(t, x)
		checkAdvance(t, x, x.Now)
		checkAdvance(t, x, last)
		// With room for one item more, it takes one, unless the items have come to their end.
		if x.Cap++; x.Cap <= fullest {
			checkAdd(t, x, 1)
		}
	}
	// Just below Cap, and just below MaxTotal.
	x := added(t, marked(empty(3, 1, 2, 5, 7), its(3, 4), 0), 9)
	step(t, "Add of the last item of two", x, api.OK, api.OK, marked(empty(3, 1, 2, 5, 8), its(3, 4, 5, 9), 0, 1))
	y := added(t, base(final-1), 9)
	step(t, "Add of the last item of all", y, api.OK, api.OK, marked(base(final), its(5, 9), 0))
	for _, full := range []api.Spread{x, y} {
		got, err := Add(full, 0)
		step(t, "Add of one more", got, err, api.ErrFull, api.Spread{})
	}
}

// TestFullOfExpiredItems fills a histogram whose first mark has items that are no longer live but still count.
func TestFullOfExpiredItems(t *testing.T) {
	x, _ := New(3, 1, 12, 0)
	x = moved(t, added(t, x, 1, -1), 2)
	x = added(t, x, ones(5)...)
	items := its(0, 1, 0, -1, 2, 1, 2, -1, 2, 1, 2, -1, 2, 1, 2, -1, 2, 1, 2, -1, 2, 1, 2, -1)
	step(t, "twelve items", x, api.OK, api.OK, marked(empty(3, 1, 12, 2, 12), items, upTo(2, 11, 0)...))
	x = moved(t, x, 4)
	// The two first items have left, but nobody knows of the second one.
	asked(t, "ten of twelve items", x, answer(10, 1, 12, 1))
	for _, v := range []int64{0, highest} {
		got, err := Add(x, v)
		step(t, "Add at tick 4", got, err, api.ErrFull, api.Spread{})
	}
	x = moved(t, x, 5)
	step(t, "Advance to tick 5", x, api.OK, api.OK, empty(3, 1, 12, 5, 12))
	x = added(t, x, 7)
	step(t, "Add at tick 5", x, api.OK, api.OK, marked(empty(3, 1, 12, 5, 13), its(5, 7), 0))
	asked(t, "7", x, answer(0, 1, 0, 1))
}

func TestAsk(t *testing.T) {
	for _, c := range []struct {
		s       shape
		live    api.Bounds // if the first mark is live
		expired api.Bounds // if it is not
	}{
		// The second mark is next to the first one.
		{shape{1, vals(5, -5), at(0, 1)}, answer(50, 1, 50, 1), answer(0, 1, 0, 1)}, {shape{1, vals(1, 2, 6), at(0, 1, 2)}, answer(14, 1, 14, 1), answer(8, 1, 8, 1)}, {shape{1, vals(0, 0, 1), at(0, 1, 2)}, answer(2, 3, 2, 3), answer(1, 2, 1, 2)}, {shape{2, vals(7, 7, 7, 7), at(0, 1, 3)}, answer(0, 1, 0, 1), answer(0, 1, 0, 1)}, {shape{1, vals(highest, -highest), at(0, 1)}, answer(33554432, 1, 33554432, 1), answer(0, 1, 0, 1)}, {shape{finest, vals(-highest, highest, -highest), at(0, 1, 2)}, answer(134217728, 3, 134217728, 3), answer(33554432, 1, 33554432, 1)},
		// It is not.
		{shape{1, vals(1, 2, 6), at(0, 2)}, answer(14, 1, 14, 1), answer(0, 1, 14, 1)}, {shape{2, vals(1, 2, 4, 4), at(0, 2, 3)}, answer(27, 4, 27, 4), answer(0, 1, 27, 4)}, {shape{1, vals(9, 0, 1, 0), at(0, 2, 3)}, answer(57, 1, 57, 1), answer(1, 2, 57, 1)}, {shape{1, vals(-highest, highest, -highest, highest), at(0, 2, 3)}, answer(67108864, 1, 67108864, 1), answer(33554432, 1, 67108864, 1)}, {shape{1, often(12, 5), upTo(2, 11, 0)}, answer(0, 1, 0, 1), answer(0, 1, 0, 1)}, {shape{1, vals(0, 1, 2, 3, 4, 5, 6, 7, 8, 9, 10, 11), at(0, 2, 11)}, answer(143, 1, 143, 1), answer(165, 2, 143, 1)}, {shape{1, then(vals(1, -1), ones(5)), upTo(2, 11, 0)}, answer(12, 1, 12, 1), answer(10, 1, 12, 1)},
	} {
		for _, seq := range []int64{int64(len(c.s.values)), final} {
			asked(t, "the first mark is live", c.s.state(3, seq, 0), c.live)
			asked(t, "it has just left", c.s.state(2, seq, 0), c.expired)
			asked(t, "it has left", c.s.state(0, seq, 9), c.expired)
		}
	}
	asked(t, "no mark", base(9), answer(0, 1, 0, 1))
	asked(t, "one mark", marked(base(9), its(3, 5), 0), answer(0, 1, 0, 1))
	asked(t, "the greatest histogram", filled(), answer(1<<40, 1, 1<<40, 1))
	asked(t, "its last marks", changed(filled(), 0, func(m *api.Mark) { m.T = 0 }), answer(1<<39, 1, 1<<40, 1))
	for _, x := range validStates() {
		checkAsk(t, x)
	}
}
