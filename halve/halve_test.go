package halve

import (
	"math/rand"
	"slices"
	"testing"

	"windowpane/api"
)

// step checks the result of a call.
func step(t *testing.T, name string, got api.Halve, err, why api.Errno, want api.Halve) {
	t.Helper()
	if err != why || !same(got, want) {
		t.Fatalf("%s = %v, %d, not %v, %d", name, got, err, want, why)
	}
}

// asked checks an answer.
func asked(t *testing.T, name string, x api.Halve, num, den uint64) {
	t.Helper()
	want := api.Fraction{Num: api.Wide{Lo: num}, Den: api.Wide{Lo: den}}
	if got, err := Ask(x); err != api.OK || got != want {
		t.Fatalf("%s: Ask(%v) = %v, %d, not %v", name, x, got, err, want)
	}
}

// checkAdvance, checkAdd, checkAsk and checkMerge compare a function with what the chapter says.
func checkAdvance(t *testing.T, x api.Halve, now int64) api.Errno {
	t.Helper()
	want, why := later(x, now)
	if got, err := Advance(x, now); !same(got, want) || err != why {
		t.Fatalf("Advance(%v, %d) = %v, %d, not %v, %d", x, now, got, err, want, why)
	}
	return why
}

func checkAdd(t *testing.T, x api.Halve, v int64) api.Errno {
	t.Helper()
	want, why := included(x, v)
	if got, err := Add(x, v); !same(got, want) || err != why {
		t.Fatalf("Add(%v, %d) = %v, %d, not %v, %d", x, v, got, err, want, why)
	}
	return why
}

func checkAsk(t *testing.T, x api.Halve) api.Errno {
	t.Helper()
	want, why := decayed(x)
	if got, err := Ask(x); got != want || err != why {
		t.Fatalf("Ask(%v) = %v, %d, not %v, %d", x, got, err, want, why)
	}
	return why
}

func checkMerge(t *testing.T, a, b api.Halve) api.Errno {
	t.Helper()
	want, why := joined(a, b)
	if got, err := Merge(a, b); !same(got, want) || err != why {
		t.Fatalf("Merge(%v, %v) = %v, %d, not %v, %d", a, b, got, err, want, why)
	}
	return why
}

// enough reports results that are too much alike.
func enough(t *testing.T, seen map[api.Errno]int, n int, codes ...api.Errno) {
	t.Helper()
	for _, why := range codes {
		if seen[why] < n {
			t.Errorf("the code %d is expected only %d times", why, seen[why])
		}
	}
}

// TestPage is the chapter's example, and goes on with it.
func TestPage(t *testing.T) {
	x, err := New(3, 0)
	step(t, "New(3, 0)", x, err, api.OK, state(0, 0, 0, 0))
	asked(t, "without items", x, 0, 4)
	x, err = Add(x, 5)
	step(t, "Add 5", x, err, api.OK, state(0, 5, 0, 0))
	asked(t, "an item that arrives now", x, 20, 4)
	x, err = Advance(x, 1)
	step(t, "Advance to 1", x, err, api.OK, state(1, 0, 5, 0))
	asked(t, "a tick later", x, 10, 4)
	x, err = Add(x, 2)
	step(t, "Add 2", x, err, api.OK, state(1, 2, 5, 0))
	asked(t, "the example", x, 8+10+0, 4)
	y, err := Merge(x, state(1, 1, 4, 0))
	step(t, "Merge with 1 and 4", y, err, api.OK, state(1, 3, 9, 0))
	asked(t, "both", y, 30, 4)
	x, err = Advance(x, 2)
	step(t, "Advance to 2", x, err, api.OK, state(2, 0, 2, 5))
	asked(t, "the age of 2", x, 9, 4)
	x, err = Advance(x, 3)
	step(t, "Advance to 3", x, err, api.OK, state(3, 0, 0, 2))
	asked(t, "the 5 has vanished", x, 2, 4)
	x, err = Advance(x, 4)
	step(t, "Advance to 4", x, err, api.OK, state(4, 0, 0, 0))
	asked(t, "all have vanished", x, 0, 4)
}

func TestNew(t *testing.T) {
	seen := map[api.Errno]int{}
	for _, n := range edges() {
		for _, now := range edges() {
			a := int(n)
			want, why := api.Halve{}, api.ErrArg
			if length(n) && tick(now) {
				want, why = flat(a, now, 0), api.OK
			}
			seen[why]++
			got, err := New(a, now)
			if !same(got, want) || err != why {
				t.Errorf("New(%d, %d) = %v, %d, not %v, %d", a, now, got, err, want, why)
			}
			if err == api.OK && Validate(got) != api.OK {
				t.Errorf("New(%d, %d) is not valid", a, now)
			}
		}
	}
	enough(t, seen, 50, api.OK, api.ErrArg)
}

func TestNewAtTheLimits(t *testing.T) {
	for _, c := range []struct {
		a   int
		now int64
		ok  bool
	}{
		{1, 0, true}, {1, last, true}, {64, 0, true}, {64, last, true}, {2, 7, true}, {63, last - 1, true}, {3, 1, true},
		{0, 0, false}, {0, last, false}, {-1, 0, false}, {65, 0, false}, {65, last, false}, {1, -1, false}, {1, last + 1, false}, {64, -1, false}, {64, last + 1, false}, {0, -1, false}, {65, last + 1, false}, {least, 0, false}, {most, 0, false}, {1, least, false}, {1, most, false}, {least, most, false}, {most, least, false}, {1<<32 + 1, 5, false}, {1, 1 << 32, false},
	} {
		x, err := New(c.a, c.now)
		if c.ok && (err != api.OK || !same(x, flat(c.a, c.now, 0)) || len(x.Sums) != c.a) || !c.ok && (err != api.ErrArg || !same(x, api.Halve{})) {
			t.Errorf("New(%d, %d) = %v, %d", c.a, c.now, x, err)
		}
	}
}

func TestValidate(t *testing.T) {
	for i, c := range []struct {
		x  api.Halve
		ok bool
	}{
		{state(1, 2, 5, 0), true}, {state(1, 2, 5, 1), false}, {state(2, 2, 5, 1), true}, {state(0, 0), true}, {state(0, full), true}, {state(last, full), true},
		// Numbers of sums.
		{api.Halve{}, false}, {state(7), false}, {state(last), false}, {api.Halve{Now: 7, Sums: []int64{}}, false}, {flat(1, 7, 3), true}, {flat(64, 70, 3), true}, {flat(65, 70, 3), false}, {flat(65, 70, 0), false}, {flat(64, 0, 3), true}, {flat(65, 0, 3), false}, {flat(64, last, full), true}, {flat(65, last, full), false}, {flat(1<<16, last, 0), false},
		// Sums.
		{state(7, -1), false}, {state(7, full+1), false}, {state(7, least), false}, {state(7, most), false}, {state(7, -1, 0, 0), false}, {state(7, 0, -1, 0), false}, {state(7, 0, 0, -1), false}, {state(7, full, full, full), true}, {state(7, full+1, 0, 0), false}, {state(7, 0, full+1, 0), false}, {state(7, 0, 0, full+1), false}, {state(7, least, 0, 0), false}, {state(7, 0, most, 0), false}, {state(7, 0, 0, least), false}, {state(7, 1<<41, 0, 0), false}, {state(7, 5, 1<<41, 5), false}, {state(7, 1<<32, 1<<39, 1), true},
		// Ticks.
		{state(-1, 0), false}, {state(-1, 0, 0, 0), false}, {state(last+1, 0), false}, {state(last, 0), true}, {state(last, 1, 2, 3), true}, {state(last+1, 1, 2, 3), false}, {state(least, 0), false}, {state(most, 0), false}, {state(least, 1), false}, {state(most, 1, 1), false}, {state(1<<32, 0), false}, {state(1<<32+7, 5, 5), false},
		// No item is older than the clock.
		{state(0, 9, 0, 0), true}, {state(0, 9, 1, 0), false}, {state(0, 9, 0, 1), false}, {state(0, 0, 1), false}, {state(0, 0, -1), false}, {state(1, 9, 9, 0), true}, {state(1, 9, 9, 9), false}, {state(1, 0, 0, full), false}, {state(1, 0, 0, -1), false}, {state(2, 0, 0, full), true}, {flat(64, 62, 5), true}, {changed(flat(64, 62, 5), 63, 1), false}, {flat(64, 63, 5), true},
	} {
		if got := Validate(c.x); got != code(c.ok) || valid(c.x) != c.ok {
			t.Errorf("case %d: Validate(%v) = %d", i, c.x, got)
		}
	}
}

// TestEachPlace has one sum that is not 0, at each place of the counters of each length, around the place Now.
func TestEachPlace(t *testing.T) {
	seen := map[api.Errno]int{}
	for a := 1; a <= oldest; a++ {
		for e := range a {
			for _, now := range []int64{0, int64(e) - 1, int64(e), int64(e) + 1, int64(a), last} {
				for _, s := range []int64{least, -full, -1, 0, 1, full - 1, full, full + 1, 2 * full, most} {
					if now < 0 {
						continue
					}
					why := code(s == 0 || 0 < s && s <= full && int64(e) <= now)
					seen[why]++
					x := lone(a, now, e, s)
					if got := Validate(x); got != why || valid(x) != (why == api.OK) {
						t.Fatalf("Validate(%v) = %d, not %d", x, got, why)
					}
				}
			}
		}
	}
	enough(t, seen, 30000, api.OK, api.ErrState)
}

func TestValidStates(t *testing.T) {
	for _, x := range validStates() {
		if got := Validate(x); got != api.OK || !valid(x) {
			t.Fatalf("Validate(%v) = %d, broken %v", x, got, broken(x))
		}
	}
}

// TestConditions checks the states that break one condition alone.
func TestConditions(t *testing.T) {
	all := oneBroken()
	for condition, states := range all {
		for _, x := range states {
			if got := Validate(x); got != api.ErrState || !slices.Equal(broken(x), []int{condition}) {
				t.Fatalf("Validate(%v) = %d, with %v broken, not %d alone", x, got, broken(x), condition)
			}
		}
	}
	for condition, n := range []int{1: 50, 2: 10000, 3: 300, 4: 1000} {
		if len(all[condition]) < n {
			t.Errorf("only %d states break condition %d", len(all[condition]), condition)
		}
	}
}

// TestInvalidStates calls all functions with states that are not valid: with good arguments, and with such that would be errors themselves.
func TestInvalidStates(t *testing.T) {
	for i, x := range invalidStates() {
		if valid(x) {
			t.Fatalf("state %d is valid: %v", i, x)
		}
		if err := Validate(x); err != api.ErrState {
			t.Fatalf("Validate(%v) = %d", x, err)
		}
		for _, n := range []int64{x.Now, 0, 1, 9, last, -1, last + 1, highest, highest + 1, least, most} {
			if checkAdvance(t, x, n) != api.ErrState || checkAdd(t, x, n) != api.ErrState {
				t.Fatalf("%v is not refused", x)
			}
		}
		if checkAsk(t, x) != api.ErrState {
			t.Fatalf("%v is not refused", x)
		}
		for _, y := range []api.Halve{state(7, 1, 2), state(7, full, full), x, at(x, 7), state(8, 5), flat(64, 70, full), {}} {
			if checkMerge(t, x, y) != api.ErrState || checkMerge(t, y, x) != api.ErrState {
				t.Fatalf("%v and %v are not refused", x, y)
			}
		}
	}
}

func TestAdvance(t *testing.T) {
	x := state(7, 3, 5, 9, 17)
	for _, c := range []struct {
		now  int64
		want api.Halve
		why  api.Errno
	}{
		// By nothing, by one tick, by two; by A - 1, A, A + 1 and more.
		{7, x, api.OK}, {8, state(8, 0, 3, 5, 9), api.OK}, {9, state(9, 0, 0, 3, 5), api.OK}, {10, state(10, 0, 0, 0, 3), api.OK}, {11, state(11, 0, 0, 0, 0), api.OK}, {12, state(12, 0, 0, 0, 0), api.OK}, {1000, state(1000, 0, 0, 0, 0), api.OK}, {last - 1, state(last-1, 0, 0, 0, 0), api.OK}, {last, state(last, 0, 0, 0, 0), api.OK},
		{6, api.Halve{}, api.ErrTime}, {3, api.Halve{}, api.ErrTime}, {0, api.Halve{}, api.ErrTime}, {-1, api.Halve{}, api.ErrTime}, {least, api.Halve{}, api.ErrTime}, {last + 1, api.Halve{}, api.ErrTime}, {1 << 32, api.Halve{}, api.ErrTime}, {1<<32 + 8, api.Halve{}, api.ErrTime}, {most, api.Halve{}, api.ErrTime},
	} {
		got, err := Advance(x, c.now)
		step(t, "Advance", got, err, c.why, c.want)
	}
	for _, c := range []struct {
		x    api.Halve
		now  int64
		want api.Halve
	}{
		// One sum alone.
		{state(0, 5), 0, state(0, 5)}, {state(0, 5), 1, state(1, 0)}, {state(0, 5), 2, state(2, 0)}, {state(0, 5), last, state(last, 0)}, {state(last, 5), last, state(last, 5)}, {state(last-1, 5), last, state(last, 0)}, {state(last-1, 5, 6), last, state(last, 0, 5)}, {state(last, 5, 6), last, state(last, 5, 6)},
		// The greatest sums.
		{state(0, full, 0, 0), 1, state(1, 0, full, 0)}, {state(1, full, full, 0), 2, state(2, 0, full, full)}, {state(2, full, full, full), 3, state(3, 0, full, full)}, {state(2, full, 0, full), 3, state(3, 0, full, 0)}, {flat(64, 100, full), 101, changed(flat(64, 101, full), 0, 0)},
	} {
		got, err := Advance(c.x, c.now)
		step(t, "Advance", got, err, api.OK, c.want)
	}
}

func TestAdvanceOfStates(t *testing.T) {
	seen := map[api.Errno]int{}
	for _, x := range validStates() {
		a := int64(len(x.Sums))
		for _, now := range append(edges(), x.Now-1, x.Now, x.Now+1, x.Now+a/2, x.Now+a-2, x.Now+a-1, x.Now+a, x.Now+a+1, x.Now+2*a, x.Now+64, x.Now+1000) {
			why := checkAdvance(t, x, now)
			seen[why]++
			if y, _ := Advance(x, now); why == api.OK && Validate(y) != api.OK {
				t.Fatalf("Advance(%v, %d) = %v is not valid", x, now, y)
			}
		}
	}
	enough(t, seen, 10000, api.OK, api.ErrTime)
}

// TestVanishing checks that an item is there up to the age A - 1, in its place and with its weight, and not at the age A.
func TestVanishing(t *testing.T) {
	for a := 1; a <= oldest; a++ {
		for _, start := range []int64{0, 1, 63, 1000, last - 65} {
			x, _ := New(a, start)
			x, err := Add(x, 77)
			if err != api.OK {
				t.Fatalf("Add has the error %d", err)
			}
			for age := range int64(66) {
				want := flat(a, start+age, 0)
				if age < int64(a) {
					want.Sums[age] = 77
				}
				y, err := Advance(x, start+age)
				step(t, "Advance", y, err, api.OK, want)
				if f, _ := Ask(y); (f.Num == api.Wide{}) != (age >= int64(a)) {
					t.Fatalf("a %d: at the age %d, Ask(%v) = %v", a, age, y, f)
				}
			}
		}
	}
}

// TestSteps checks that several steps of the clock come to the same as one.
func TestSteps(t *testing.T) {
	source := rand.New(rand.NewSource(41))
	for i, x := range validStates() {
		a := int64(len(x.Sums))
		for _, far := range []int64{1, 2, a - 1, a, a + 3, 100} {
			if x.Now+far > last {
				continue
			}
			end := x.Now + far
			one, err := Advance(x, end)
			if err != api.OK {
				t.Fatalf("Advance(%v, %d) = %d", x, end, err)
			}
			y := x
			for y.Now < end {
				next := y.Now + 1
				if i%2 == 0 {
					next += source.Int63n(end - y.Now)
				}
				if y, err = Advance(y, next); err != api.OK || y.Now != next {
					t.Fatalf("Advance to %d = %v, %d", next, y, err)
				}
			}
			step(t, "several steps", y, err, api.OK, one)
		}
	}
}

func TestAdd(t *testing.T) {
	x := state(7, 3, 5, 9)
	for _, c := range []struct {
		x    api.Halve
		v    int64
		want api.Halve
		why  api.Errno
	}{
		{x, 0, x, api.OK}, {x, 1, state(7, 4, 5, 9), api.OK}, {x, 77, state(7, 80, 5, 9), api.OK}, {x, highest - 1, state(7, 4098, 5, 9), api.OK}, {x, highest, state(7, 4099, 5, 9), api.OK},
		{state(0, 0), 0, state(0, 0), api.OK}, {state(0, 0), highest, state(0, 4096), api.OK}, {state(last, 0, 0), highest, state(last, 4096, 0), api.OK}, {flat(64, 0, 0), 5, lone(64, 0, 0, 5), api.OK}, {flat(64, last, 9), 5, changed(flat(64, last, 9), 0, 14), api.OK},
		// The other sums do not matter.
		{state(7, 3, full, full), highest, state(7, 4099, full, full), api.OK}, {state(7, 0, full), 1, state(7, 1, full), api.OK},
		{x, -1, api.Halve{}, api.ErrRange}, {x, -highest, api.Halve{}, api.ErrRange}, {x, highest + 1, api.Halve{}, api.ErrRange}, {x, full, api.Halve{}, api.ErrRange}, {x, 1 << 32, api.Halve{}, api.ErrRange}, {x, 1<<32 + 5, api.Halve{}, api.ErrRange}, {x, -1 << 32, api.Halve{}, api.ErrRange}, {x, least, api.Halve{}, api.ErrRange}, {x, most, api.Halve{}, api.ErrRange},
	} {
		got, err := Add(c.x, c.v)
		step(t, "Add", got, err, c.why, c.want)
	}
}

// TestAddAtTheTop adds values that make the sum just the greatest one, and just greater.
func TestAddAtTheTop(t *testing.T) {
	for _, a := range lengths() {
		for _, now := range clocks(a) {
			for _, v := range []int64{1, 2, 77, highest - 1, highest} {
				for d := int64(-2); d <= 2; d++ {
					if full-v+d > full {
						continue
					}
					why := api.OK
					if d > 0 {
						why = api.ErrOver
					}
					for _, rest := range []int64{0, 5, full} {
						x := changed(flat(a, now, rest), 0, full-v+d)
						if got := checkAdd(t, x, v); got != why {
							t.Fatalf("Add(%v, %d) has the error %d, not %d", x, v, got, why)
						}
						if y, _ := Add(x, v); d == 0 && y.Sums[0] != full {
							t.Fatalf("Add(%v, %d) = %v, not the greatest sum", x, v, y)
						}
					}
				}
			}
			for _, v := range append(extremes(), -1, -2, highest+1, highest+2, -full, full) {
				if got := checkAdd(t, flat(a, now, full), v); got != api.ErrRange {
					t.Fatalf("Add(%v, %d) has the error %d: that of the value comes first", flat(a, now, full), v, got)
				}
			}
			if got := checkAdd(t, flat(a, now, full), 0); got != api.OK {
				t.Fatalf("Add(%v, 0) has the error %d", flat(a, now, full), got)
			}
		}
	}
}

func TestAddToStates(t *testing.T) {
	seen := map[api.Errno]int{}
	for _, x := range validStates() {
		for _, v := range append(edges(), 77) {
			why := checkAdd(t, x, v)
			seen[why]++
			if y, _ := Add(x, v); why == api.OK && Validate(y) != api.OK {
				t.Fatalf("Add(%v, %d) = %v is not valid", x, v, y)
			}
		}
	}
	enough(t, seen, 2000, api.OK, api.ErrRange, api.ErrOver)
}

func TestAsk(t *testing.T) {
	low := func(n uint64) api.Wide { return api.Wide{Lo: n} }
	for _, c := range []struct {
		x    api.Halve
		want api.Fraction
	}{
		// One sum.
		{state(0, 0), api.Fraction{Den: low(1)}}, {state(7, 5), api.Fraction{Num: low(5), Den: low(1)}}, {state(last, full), api.Fraction{Num: low(1 << 40), Den: low(1)}},
		// Some sums; the fraction is not in lowest terms.
		{state(7, 0, 0), api.Fraction{Den: low(2)}}, {state(7, 4, 0), api.Fraction{Num: low(8), Den: low(2)}}, {state(7, 0, 4), api.Fraction{Num: low(4), Den: low(2)}}, {state(7, 3, 6, 12, 24), api.Fraction{Num: low(96), Den: low(8)}}, {state(7, 1, 1, 1, 1), api.Fraction{Num: low(15), Den: low(8)}}, {state(0, 1, 0, 0, 0), api.Fraction{Num: low(8), Den: low(8)}}, {state(7, full, full, full), api.Fraction{Num: low(7 << 40), Den: low(4)}},
		// Each sum is the greatest one: the numerator is 2^40 (2^A - 1), and ends with the first word or goes on.
		{flat(24, 99, full), api.Fraction{Num: low(1<<64 - 1<<40), Den: low(1 << 23)}}, {flat(25, 99, full), api.Fraction{Num: api.Wide{Hi: 1, Lo: 1<<64 - 1<<40}, Den: low(1 << 24)}}, {flat(26, 99, full), api.Fraction{Num: api.Wide{Hi: 3, Lo: 1<<64 - 1<<40}, Den: low(1 << 25)}}, {flat(63, 99, full), api.Fraction{Num: api.Wide{Hi: 1<<39 - 1, Lo: 1<<64 - 1<<40}, Den: low(1 << 62)}}, {flat(64, last, full), api.Fraction{Num: api.Wide{Hi: 1<<40 - 1, Lo: 1<<64 - 1<<40}, Den: low(1 << 63)}},
		// The greatest number of sums.
		{flat(64, 0, 0), api.Fraction{Den: low(1 << 63)}}, {flat(64, last, 0), api.Fraction{Den: low(1 << 63)}}, {lone(64, 0, 0, 1), api.Fraction{Num: low(1 << 63), Den: low(1 << 63)}}, {lone(64, 9, 0, 2), api.Fraction{Num: api.Wide{Hi: 1}, Den: low(1 << 63)}}, {lone(64, 9, 1, 2), api.Fraction{Num: low(1 << 63), Den: low(1 << 63)}}, {lone(64, 63, 63, 1), api.Fraction{Num: low(1), Den: low(1 << 63)}}, {lone(64, 63, 63, full), api.Fraction{Num: low(1 << 40), Den: low(1 << 63)}}, {lone(64, 63, 0, full), api.Fraction{Num: api.Wide{Hi: 1 << 39}, Den: low(1 << 63)}}, {changed(lone(64, 63, 0, full), 63, 1), api.Fraction{Num: api.Wide{Hi: 1 << 39, Lo: 1}, Den: low(1 << 63)}}, {flat(64, 63, 1), api.Fraction{Num: low(1<<64 - 1), Den: low(1 << 63)}},
	} {
		if got, err := Ask(c.x); got != c.want || err != api.OK {
			t.Errorf("Ask(%v) = %v, %d, not %v", c.x, got, err, c.want)
		}
	}
}

func TestAskOfStates(t *testing.T) {
	twoWords := 0
	for _, x := range validStates() {
		if checkAsk(t, x) != api.OK {
			t.Fatalf("Ask(%v) is refused", x)
		}
		if f, _ := Ask(x); f.Num.Hi > 0 {
			twoWords++
		}
	}
	if twoWords < 200 {
		t.Errorf("only %d numerators have two words", twoWords)
	}
	// Each place has its own weight.
	for a := 1; a <= oldest; a++ {
		for e := range a {
			for _, s := range []int64{1, 3, full - 1, full} {
				checkAsk(t, lone(a, last, e, s))
				checkAsk(t, changed(flat(a, int64(a), full), e, s))
			}
		}
	}
}

func TestMerge(t *testing.T) {
	a, b := state(7, 3, 5, 9), state(7, 10, 20, 0)
	empty := state(7, 0, 0, 0)
	for _, c := range []struct{ a, b, want api.Halve }{
		{a, b, state(7, 13, 25, 9)}, {b, a, state(7, 13, 25, 9)}, {a, empty, a}, {empty, a, a}, {empty, empty, empty}, {a, a, state(7, 6, 10, 18)},
		{state(0, 3), state(0, 4), state(0, 7)}, {state(last, 3), state(last, 4), state(last, 7)}, {state(0, 3, 0, 0), state(0, 4, 0, 0), state(0, 7, 0, 0)}, {state(1, 3, 1, 0), state(1, 4, 2, 0), state(1, 7, 3, 0)}, {flat(64, last, 5), flat(64, last, 6), flat(64, last, 11)}, {flat(64, 9, 5), flat(64, 9, full-5), flat(64, 9, full)}, {flat(64, 0, 0), flat(64, 0, 0), flat(64, 0, 0)},
		// Just the greatest sum, at the first, the middle and the last place.
		{state(7, full-5, 1, 1), state(7, 5, 1, 1), state(7, full, 2, 2)}, {state(7, 1, full-5, 1), state(7, 1, 5, 1), state(7, 2, full, 2)}, {state(7, 1, 1, full-5), state(7, 1, 1, 5), state(7, 2, 2, full)}, {state(7, 0, 0, full), empty, state(7, 0, 0, full)}, {state(7, full/2, full/2, full/2), state(7, full/2, full/2, full/2), state(7, full, full, full)},
	} {
		got, err := Merge(c.a, c.b)
		step(t, "Merge", got, err, api.OK, c.want)
	}
}

// TestMergeErrors has the errors alone and together.
func TestMergeErrors(t *testing.T) {
	good, bad, top := state(7, 3, 5, 9), state(7, 3, -1, 9), state(7, full, full, full)
	for i, c := range []struct {
		a, b api.Halve
		why  api.Errno
	}{
		{bad, good, api.ErrState}, {good, bad, api.ErrState}, {bad, bad, api.ErrState}, {api.Halve{}, good, api.ErrState}, {good, api.Halve{}, api.ErrState}, {api.Halve{}, api.Halve{}, api.ErrState}, {state(7), state(7), api.ErrState},
		// The tick or the number of sums differs.
		{good, at(good, 8), api.ErrArg}, {at(good, 8), good, api.ErrArg}, {good, at(good, 6), api.ErrArg}, {at(good, 2), at(good, last), api.ErrArg}, {state(0, 0), state(1, 0), api.ErrArg}, {good, state(7, 3, 5), api.ErrArg}, {state(7, 3, 5), good, api.ErrArg}, {good, state(7, 3, 5, 9, 0), api.ErrArg}, {state(7, 3, 5, 9, 0), good, api.ErrArg}, {state(7, 3), flat(64, 7, 3), api.ErrArg}, {flat(64, 7, 3), state(7, 3), api.ErrArg}, {flat(63, 7, 0), flat(64, 7, 0), api.ErrArg}, {state(8, 3, 5), good, api.ErrArg}, {good, state(8, 3, 5), api.ErrArg},
		// A state is invalid, too.
		{bad, at(good, 8), api.ErrState}, {at(good, 8), bad, api.ErrState}, {bad, state(7, 3, 5), api.ErrState}, {state(7, 3, 5), bad, api.ErrState}, {bad, state(8, 3, 5), api.ErrState}, {state(8, 3, 5), bad, api.ErrState}, {api.Halve{}, at(good, 8), api.ErrState}, {good, at(good, last+1), api.ErrState}, {at(good, last+1), good, api.ErrState}, {good, at(good, 1), api.ErrState}, {at(good, 1), good, api.ErrState}, {good, flat(65, 7, 1), api.ErrState}, {flat(65, 7, 1), good, api.ErrState},
		// A sum is too great, at the first, the middle or the last place.
		{state(7, full-5, 1, 1), state(7, 6, 1, 1), api.ErrOver}, {state(7, 1, full-5, 1), state(7, 1, 6, 1), api.ErrOver}, {state(7, 1, 1, full-5), state(7, 1, 1, 6), api.ErrOver}, {state(7, 1, 1, 6), state(7, 1, 1, full-5), api.ErrOver}, {state(7, full, 0, 0), state(7, 1, 0, 0), api.ErrOver}, {state(7, 0, full, 0), state(7, 0, 1, 0), api.ErrOver}, {state(7, 0, 0, 1), state(7, 0, 0, full), api.ErrOver}, {top, top, api.ErrOver}, {state(0, full), state(0, 1), api.ErrOver}, {state(0, full), state(0, full), api.ErrOver}, {state(0, full), state(0, 0), api.OK}, {top, state(7, 0, 0, 0), api.OK}, {flat(64, last, full), lone(64, last, 63, 1), api.ErrOver}, {flat(64, last, full), flat(64, last, full), api.ErrOver}, {flat(64, last, full), flat(64, last, 0), api.OK},
		// The other errors come first.
		{top, at(top, 8), api.ErrArg}, {at(top, 8), top, api.ErrArg}, {top, state(7, full, full), api.ErrArg}, {state(7, full, full), top, api.ErrArg}, {top, state(9, full, full), api.ErrArg}, {top, flat(64, 7, full), api.ErrArg}, {top, bad, api.ErrState}, {bad, top, api.ErrState}, {top, state(7, full, full, full+1), api.ErrState}, {state(7, full, full, full+1), top, api.ErrState}, {top, state(7, full, -1, full), api.ErrState}, {state(7, full, full+1, full), state(8, full, full), api.ErrState}, {state(8, full, full), state(7, full, full+1, full), api.ErrState}, {state(7, most), state(7, most), api.ErrState}, {state(7, most), state(7, full), api.ErrState}, {state(7, full), state(7, least), api.ErrState}, {top, flat(65, 7, full), api.ErrState}, {top, at(top, 1), api.ErrState}, {at(top, 1), top, api.ErrState},
	} {
		if got := checkMerge(t, c.a, c.b); got != c.why {
			t.Errorf("case %d: Merge(%v, %v) has the error %d, not %d", i, c.a, c.b, got, c.why)
		}
	}
}

// TestMergeAtEachPlace makes the sum at each place in turn just the greatest one, and just greater.
func TestMergeAtEachPlace(t *testing.T) {
	for _, a := range lengths() {
		for _, now := range clocks(a) {
			for e := 0; e < a && int64(e) <= now; e++ {
				for _, s := range []int64{1, highest, full / 2, full - 1, full} {
					for d := int64(-1); d <= 1; d++ {
						if full-s+d < 0 {
							continue
						}
						why := api.OK
						if d > 0 {
							why = api.ErrOver
						}
						x, y := changed(flat(a, now, full/2), e, s), changed(flat(a, now, full/2), e, full-s+d)
						if got := checkMerge(t, x, y); got != why {
							t.Fatalf("Merge(%v, %v) has the error %d, not %d", x, y, got, why)
						}
					}
				}
			}
		}
	}
}

// TestMergeOfStates merges states at the limits with each other, most of them of the same tick and length.
func TestMergeOfStates(t *testing.T) {
	source := rand.New(rand.NewSource(42))
	states := validStates()
	seen := map[api.Errno]int{}
	for range 60000 {
		i, j := source.Intn(len(states)), source.Intn(len(states))
		if source.Intn(10) > 0 {
			// Neighbours have mostly the same parameters.
			j = min(len(states)-1, i+source.Intn(8))
		}
		a, b := states[i], states[j]
		why := checkMerge(t, a, b)
		seen[why]++
		if y, _ := Merge(a, b); why == api.OK && Validate(y) != api.OK {
			t.Fatalf("Merge(%v, %v) = %v is not valid", a, b, y)
		}
		if checkMerge(t, b, a) != why {
			t.Fatalf("Merge(%v, %v) has not the error %d", b, a, why)
		}
	}
	enough(t, seen, 5000, api.OK, api.ErrArg, api.ErrOver)
}
