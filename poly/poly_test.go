package poly

import (
	"math/big"
	"math/rand"
	"slices"
	"testing"

	"windowpane/api"
)

// step checks the result of a call.
func step(t *testing.T, name string, got api.Poly, err, why api.Errno, want api.Poly) {
	t.Helper()
	if err != why || !same(got, want) {
		t.Fatalf("%s = %v, %d, not %v, %d", name, got, err, want, why)
	}
}

// asked checks an answer.
func asked(t *testing.T, name string, x api.Poly, num, den uint64) {
	t.Helper()
	want := api.Fraction{Num: api.Wide{Lo: num}, Den: api.Wide{Lo: den}}
	if got, err := Ask(x); err != api.OK || got != want {
		t.Fatalf("%s: Ask(%v) = %v, %d, not %v", name, x, got, err, want)
	}
}

// checkAdvance, checkAdd, checkAsk, checkRebase and checkMerge compare a function with what the chapter says.
func checkAdvance(t *testing.T, x api.Poly, now int64) api.Errno {
	t.Helper()
	want, why := later(x, now)
	if got, err := Advance(x, now); !same(got, want) || err != why {
		t.Fatalf("Advance(%v, %d) = %v, %d, not %v, %d", x, now, got, err, want, why)
	}
	return why
}

func checkAdd(t *testing.T, x api.Poly, v int64) api.Errno {
	t.Helper()
	want, why := included(x, v)
	if got, err := Add(x, v); !same(got, want) || err != why {
		t.Fatalf("Add(%v, %d) = %v, %d, not %v, %d", x, v, got, err, want, why)
	}
	return why
}

func checkAsk(t *testing.T, x api.Poly) api.Errno {
	t.Helper()
	want, why := decayed(x)
	if got, err := Ask(x); got != want || err != why {
		t.Fatalf("Ask(%v) = %v, %d, not %v, %d", x, got, err, want, why)
	}
	return why
}

func checkRebase(t *testing.T, x api.Poly, land int64) api.Errno {
	t.Helper()
	want, why := shifted(x, land)
	if got, err := Rebase(x, land); !same(got, want) || err != why {
		t.Fatalf("Rebase(%v, %d) = %v, %d, not %v, %d", x, land, got, err, want, why)
	}
	return why
}

func checkMerge(t *testing.T, a, b api.Poly) api.Errno {
	t.Helper()
	want, why := joined(a, b)
	if got, err := Merge(a, b); !same(got, want) || err != why {
		t.Fatalf("Merge(%v, %v) = %v, %d, not %v, %d", a, b, got, err, want, why)
	}
	return why
}

// enough reports results that are too much alike.
func enough(t *testing.T, seen map[api.Errno]int, n int, codes ...api.Errno) {
	t.Helper()
	for _, why := range codes {
		if seen[why] < n {
			t.Errorf("the code %d is expected only %d times", why, seen[why])
		}
	}
}

// TestPage is the chapter's example, and goes on with it.
func TestPage(t *testing.T) {
	x, err := New(1, 0)
	step(t, "New(1, 0)", x, err, api.OK, state(0, 0, lows(0, 0)...))
	asked(t, "without items", x, 0, 1)
	x, err = Add(x, 4)
	step(t, "Add 4", x, err, api.OK, state(0, 0, lows(4, 4)...))
	asked(t, "an item that arrives now", x, 4, 1)
	x, err = Advance(x, 2)
	step(t, "Advance to 2", x, err, api.OK, state(0, 2, lows(4, 4)...))
	asked(t, "two ticks later", x, 4, 3)
	x, err = Add(x, 3)
	step(t, "Add 3", x, err, api.OK, state(0, 2, lows(7, 13)...))
	asked(t, "the example", x, 13, 3)
	y, err := Rebase(x, 0)
	step(t, "Rebase to 0", y, err, api.OK, x)
	y, err = Merge(x, state(2, 2, lows(5, 5)...))
	step(t, "Merge with 5", y, err, api.OK, state(0, 2, lows(12, 28)...))
	x, err = Advance(x, 9)
	step(t, "Advance to 9", x, err, api.OK, state(0, 9, lows(7, 13)...))
	asked(t, "not in lowest terms", state(0, 9, lows(7, 20)...), 20, 10)
}

func TestNew(t *testing.T) {
	seen := map[api.Errno]int{}
	for _, n := range edges() {
		for _, now := range edges() {
			p := int(n)
			want, why := api.Poly{}, api.ErrArg
			if power(p) && tick(now) {
				want, why = level(p, now, now, num(0)), api.OK
			}
			seen[why]++
			got, err := New(p, now)
			if !same(got, want) || err != why {
				t.Errorf("New(%d, %d) = %v, %d, not %v, %d", p, now, got, err, want, why)
			}
			if err == api.OK && Validate(got) != api.OK {
				t.Errorf("New(%d, %d) is not valid", p, now)
			}
		}
	}
	enough(t, seen, 50, api.OK, api.ErrArg)
}

func TestNewAtTheLimits(t *testing.T) {
	for _, c := range []struct {
		p    int
		now  int64
		want int // the number of moments; 0 is for an error
	}{
		{0, 0, 1}, {0, last, 1}, {1, 0, 2}, {2, 7, 3}, {3, last - 1, 4}, {steep, 0, 5}, {steep, last, 5}, {steep, 1, 5},
		{-1, 0, 0}, {-1, last, 0}, {steep + 1, 0, 0}, {steep + 1, last, 0}, {0, -1, 0}, {0, last + 1, 0}, {steep, -1, 0}, {steep, last + 1, 0}, {-1, -1, 0}, {steep + 1, last + 1, 0}, {least, 0, 0}, {most, 0, 0}, {1, least, 0}, {1, most, 0}, {least, most, 0}, {most, least, 0}, {1 << 32, 5, 0}, {1, 1 << 32, 0},
	} {
		x, err := New(c.p, c.now)
		if (err == api.OK) != (c.want > 0) || len(x.Moments) != c.want || err != api.OK && err != api.ErrArg {
			t.Errorf("New(%d, %d) = %v, %d", c.p, c.now, x, err)
		}
	}
}

func TestValidate(t *testing.T) {
	big := func(hi, lo uint64) api.Wide { return api.Wide{Hi: hi, Lo: lo} }
	const all = 1<<64 - 1
	for i, c := range []struct {
		x  api.Poly
		ok bool
	}{
		{state(0, 2, lows(7, 13)...), true}, {state(0, 2, lows(7, 7)...), true}, {state(0, 2, lows(7, 21)...), true}, {state(0, 2, lows(7, 6)...), false}, {state(0, 2, lows(7, 22)...), false}, {state(2, 2, lows(7, 7)...), true}, {state(2, 2, lows(7, 8)...), false}, {state(2, 2, lows(7, 6)...), false}, {state(0, last, lows(1, last+1)...), true}, {state(0, last, lows(1, last+2)...), false}, {state(1, last, lows(1, last+1)...), false},
		// No items.
		{state(0, 2, lows(0)...), true}, {state(0, 2, lows(0, 0, 0, 0, 0)...), true}, {state(0, 2, lows(0, 1)...), false}, {state(0, 2, lows(0, 0, 0, 0, 1)...), false}, {state(0, 2, lows(0, 0, 1, 1, 1)...), false},
		// Powers and numbers of moments.
		{state(0, 2, lows(7)...), true}, {state(0, 2, lows(7, 8, 9, 10, 11)...), true}, {state(0, 2, lows(7, 8, 9, 10, 11, 12)...), false}, {api.Poly{P: -1, Now: 2}, false}, {api.Poly{Now: 2}, false}, {api.Poly{P: 1, Now: 2, Moments: lows(7)}, false}, {api.Poly{P: 1, Now: 2, Moments: lows(7, 8, 9)}, false}, {api.Poly{Now: 2, Moments: lows(7, 8)}, false}, {api.Poly{P: steep, Now: 2, Moments: lows(7, 8, 9, 10)}, false}, {api.Poly{P: steep, Now: 2, Moments: lows(7, 8, 9, 10, 11, 12)}, false}, {api.Poly{P: most, Now: 2, Moments: lows(7)}, false}, {api.Poly{P: least, Now: 2, Moments: lows(7)}, false},
		// Landmarks and ticks.
		{state(0, 0, lows(7)...), true}, {state(0, last, lows(7)...), true}, {state(last, last, lows(7)...), true}, {state(0, last+1, lows(7)...), false}, {state(last+1, last+1, lows(7)...), false}, {state(-1, 0, lows(7)...), false}, {state(-1, -1, lows(7)...), false}, {state(0, -1, lows(0)...), false}, {state(3, 2, lows(7)...), false}, {state(3, 2, lows(0, 0)...), false}, {state(least, most, lows(7)...), false}, {state(most, least, lows(7)...), false}, {state(least, least, lows(7)...), false}, {state(most, most, lows(7)...), false}, {state(least, 2, lows(7, 7)...), false}, {state(0, most, lows(7, 7)...), false},
		// Each moment is just in its place, and just not.
		{state(0, 2, lows(1, 3, 9, 27, 81)...), true}, {state(0, 2, lows(1, 4, 9, 27, 81)...), false}, {state(0, 2, lows(1, 3, 10, 27, 81)...), false}, {state(0, 2, lows(1, 3, 9, 28, 81)...), false}, {state(0, 2, lows(1, 3, 9, 27, 82)...), false}, {state(0, 2, lows(5, 5, 5, 5, 5)...), true}, {state(0, 2, lows(5, 4, 5, 5, 5)...), false}, {state(0, 2, lows(5, 5, 4, 5, 5)...), false}, {state(0, 2, lows(5, 5, 5, 4, 5)...), false}, {state(0, 2, lows(5, 5, 5, 5, 4)...), false}, {state(0, 2, lows(5, 4, 4, 4, 4)...), false}, {state(0, 2, lows(5, 5, 5, 16, 16)...), false},
		// The moments have two words.
		{state(0, 1, big(0, all), big(1, all-1)), true}, {state(0, 1, big(0, all), big(1, all)), false}, {state(0, 1, big(0, 1<<63), big(1, 0)), true}, {state(0, 1, big(0, 1<<63), big(1, 1)), false}, {state(0, 1, big(0, 1<<63-1), big(1, 0)), false}, {state(0, 1, big(1, 0), big(0, all)), false}, {state(0, 1, big(1, 0), big(1, 0)), true}, {state(0, 1, big(1, 1), big(1, 0)), false}, {state(0, 1, big(1, 1), big(2, 0)), true}, {state(0, 1, big(2, 0), big(1, all)), false}, {state(0, 1, big(1, 1), big(2, 3)), false},
		// The product with the greatest age does not fit into two words, and just does.
		{state(0, 1, big(1<<63, 0), big(all, all)), true}, {state(0, 1, big(1<<63, 0), big(1<<63, 0)), true}, {state(0, 1, big(1<<63, 0), big(1<<63-1, all)), false}, {state(0, 1, big(1<<63-1, all), big(all, all-1)), true}, {state(0, 1, big(1<<63-1, all), big(all, all)), false}, {state(0, 2, big(all/3, all/3), top), true}, {state(0, 2, big(all/3, all/3-1), top), false}, {state(0, last, big(1<<40, 0), top), true}, {state(0, last, big(1<<39, 0), top), false}, {state(0, last, top, top), true}, {state(0, last, top, big(all, all-1)), false}, {state(3, 3, top, top, top, top, top), true}, {state(3, 3, big(all, all-1), top), false}, {state(0, 3, lows(0, 0)[0], top), false},
	} {
		if got := Validate(c.x); got != code(c.ok) || valid(c.x) != c.ok {
			t.Errorf("case %d: Validate(%v) = %d", i, c.x, got)
		}
	}
}

// TestMomentsInTheirPlace moves each moment over both of its ends, the other ones being in their places.
func TestMomentsInTheirPlace(t *testing.T) {
	seen := map[api.Errno]int{}
	for p := 1; p <= steep; p++ {
		for j := 1; j <= p; j++ {
			for _, c := range places() {
				for _, m := range firsts(c.now - c.land + 1) {
					end := timesOf(m, num(c.now-c.land+1))
					for _, next := range []*big.Int{num(0), minusOf(m, num(1)), m, plusOf(m, num(1)), minusOf(end, num(1)), end, plusOf(end, num(1)), largeOf(top)} {
						if !isWide(next) {
							continue
						}
						why := code(m.Cmp(next) <= 0 && next.Cmp(end) <= 0)
						seen[why]++
						x := stair(p, j, c.land, c.now, m, next)
						if got := Validate(x); got != why || valid(x) != (why == api.OK) {
							t.Fatalf("Validate(%v) = %d, not %d", x, got, why)
						}
					}
				}
			}
		}
	}
	enough(t, seen, 5000, api.OK, api.ErrState)
}

func TestValidStates(t *testing.T) {
	for _, x := range validStates() {
		if got := Validate(x); got != api.OK || !valid(x) {
			t.Fatalf("Validate(%v) = %d, broken %v", x, got, broken(x))
		}
		checkAsk(t, x)
	}
}

// TestConditions checks the states that break one condition alone.
func TestConditions(t *testing.T) {
	for condition, states := range oneBroken() {
		for _, x := range states {
			if got := Validate(x); got != api.ErrState || !slices.Equal(broken(x), []int{condition}) {
				t.Fatalf("Validate(%v) = %d, with %v broken, not %d alone", x, got, broken(x), condition)
			}
		}
	}
	for condition, n := range []int{1: 5, 2: 5, 3: 10, 4: 100, 5: 1000, 6: 1000} {
		if len(oneBroken()[condition]) < n {
			t.Errorf("only %d states break condition %d", len(oneBroken()[condition]), condition)
		}
	}
}

// TestInvalidStates calls all functions with states that are not valid: with good arguments, and with such that would be errors themselves.
func TestInvalidStates(t *testing.T) {
	good, full := level(1, 3, 7, num(5)), level(1, 3, 7, largeOf(top))
	for i, x := range invalidStates() {
		if valid(x) {
			t.Fatalf("state %d is valid: %v", i, x)
		}
		if err := Validate(x); err != api.ErrState {
			t.Fatalf("Validate(%v) = %d", x, err)
		}
		for _, n := range []int64{x.Now, x.Land, 0, 1, 9, last, -1, last + 1, highest + 1, least, most} {
			if checkAdvance(t, x, n) != api.ErrState || checkAdd(t, x, n) != api.ErrState || checkRebase(t, x, n) != api.ErrState {
				t.Fatalf("%v is not refused", x)
			}
		}
		if checkAsk(t, x) != api.ErrState {
			t.Fatalf("%v is not refused", x)
		}
		for _, y := range []api.Poly{good, full, x, at(good, 1, 8), level(2, 3, 7, num(5)), {}} {
			if checkMerge(t, x, y) != api.ErrState || checkMerge(t, y, x) != api.ErrState {
				t.Fatalf("%v and %v are not refused", x, y)
			}
		}
	}
}

func TestAdvance(t *testing.T) {
	x := state(5, 7, lows(3, 7, 17)...)
	for _, c := range []struct {
		now  int64
		want api.Poly
		why  api.Errno
	}{
		{7, x, api.OK}, {8, at(x, 5, 8), api.OK}, {9, at(x, 5, 9), api.OK}, {last - 1, at(x, 5, last-1), api.OK}, {last, at(x, 5, last), api.OK},
		{6, api.Poly{}, api.ErrTime}, {5, api.Poly{}, api.ErrTime}, {0, api.Poly{}, api.ErrTime}, {-1, api.Poly{}, api.ErrTime}, {least, api.Poly{}, api.ErrTime}, {last + 1, api.Poly{}, api.ErrTime}, {1 << 32, api.Poly{}, api.ErrTime}, {1<<32 + 8, api.Poly{}, api.ErrTime}, {most, api.Poly{}, api.ErrTime},
	} {
		got, err := Advance(x, c.now)
		step(t, "Advance", got, err, c.why, c.want)
	}
	seen := map[api.Errno]int{}
	for _, x := range someStates(3) {
		for _, now := range append(edges(), x.Now-1, x.Now, x.Now+1, x.Land) {
			seen[checkAdvance(t, x, now)]++
		}
	}
	enough(t, seen, 5000, api.OK, api.ErrTime)
}

func TestAdd(t *testing.T) {
	x := state(5, 7, lows(3, 7, 17)...)
	for _, c := range []struct {
		x    api.Poly
		v    int64
		want api.Poly
		why  api.Errno
	}{
		{x, 0, x, api.OK}, {x, 1, state(5, 7, lows(4, 10, 26)...), api.OK}, {x, 10, state(5, 7, lows(13, 37, 107)...), api.OK}, {x, highest, state(5, 7, lows(4099, 12295, 36881)...), api.OK},
		{state(0, 0, lows(0)...), highest, state(0, 0, lows(4096)...), api.OK}, {state(0, last, lows(0)...), highest, state(0, last, lows(4096)...), api.OK}, {level(4, 9, 9, num(3)), 2, level(4, 9, 9, num(5)), api.OK}, {level(4, 0, 9, num(0)), 2, state(0, 9, lows(2, 20, 200, 2000, 20000)...), api.OK}, {level(4, 0, 9, num(0)), 0, level(4, 0, 9, num(0)), api.OK},
		// The greatest weights: the moments are 2^12, 2^12 (2^24 + 1), and so on.
		{level(2, 0, last, num(0)), highest, state(0, last, lows(1<<12, 1<<36+1<<12, 1<<60+1<<37+1<<12)...), api.OK}, {level(4, 1, last, num(0)), highest, state(1, last, api.Wide{Lo: 1 << 12}, api.Wide{Lo: 1 << 36}, api.Wide{Lo: 1 << 60}, api.Wide{Hi: 1 << 20}, api.Wide{Hi: 1 << 44}), api.OK},
		{x, -1, api.Poly{}, api.ErrRange}, {x, -highest, api.Poly{}, api.ErrRange}, {x, highest + 1, api.Poly{}, api.ErrRange}, {x, 1 << 32, api.Poly{}, api.ErrRange}, {x, -1 << 32, api.Poly{}, api.ErrRange}, {x, least, api.Poly{}, api.ErrRange}, {x, most, api.Poly{}, api.ErrRange},
	} {
		got, err := Add(c.x, c.v)
		step(t, "Add", got, err, c.why, c.want)
	}
	seen := map[api.Errno]int{}
	for _, x := range someStates(2) {
		for _, v := range append(edges(), 77) {
			seen[checkAdd(t, x, v)]++
		}
	}
	enough(t, seen, 1000, api.OK, api.ErrRange, api.ErrOver)
}

// TestAddAtTheTop adds values that make one of the moments just the greatest api.Wide, and just greater.
func TestAddAtTheTop(t *testing.T) {
	full := largeOf(top)
	for i, c := range []struct {
		x   api.Poly
		v   int64
		why api.Errno
	}{
		// The first moment alone.
		{state(3, 7, wideOf(below(num(9)))), 9, api.OK}, {state(3, 7, wideOf(below(num(9)))), 10, api.ErrOver}, {state(3, 7, wideOf(below(num(highest)))), highest, api.OK}, {state(3, 7, wideOf(below(num(highest-1)))), highest, api.ErrOver}, {state(3, 7, top), 0, api.OK}, {state(3, 7, top), 1, api.ErrOver}, {state(3, 7, top), highest, api.ErrOver},
		// All of them.
		{level(4, 7, 7, below(num(9))), 9, api.OK}, {level(4, 7, 7, below(num(9))), 10, api.ErrOver}, {level(4, 7, 7, full), 0, api.OK}, {level(4, 7, 7, full), 1, api.ErrOver}, {level(4, 3, 7, full), 0, api.OK}, {level(4, 3, 7, full), 1, api.ErrOver}, {level(1, 0, last, full), 1, api.ErrOver},
		// A middle one, and those behind it.
		{stair(4, 2, 3, 7, two(126, 0), below(num(25))), 1, api.ErrOver}, {stair(4, 2, 3, 7, two(126, 0), below(num(25))), 0, api.OK}, {stair(4, 2, 3, 7, two(126, 0), full), 1, api.ErrOver}, {stair(2, 1, 3, 7, two(126, 0), full), 1, api.ErrOver}, {stair(3, 1, 3, 7, two(126, 0), full), 0, api.OK}, {stair(3, 2, 3, 7, two(126, 0), below(num(24))), 1, api.ErrOver},
		// The last one.
		{stair(1, 1, 3, 7, two(126, 0), below(num(45))), 9, api.OK}, {stair(1, 1, 3, 7, two(126, 0), below(num(44))), 9, api.ErrOver}, {stair(1, 1, 3, 7, two(126, 0), below(num(45))), 10, api.ErrOver}, {stair(2, 2, 3, 7, two(126, 0), below(num(25))), 1, api.OK}, {stair(2, 2, 3, 7, two(126, 0), below(num(24))), 1, api.ErrOver}, {stair(4, 4, 3, 7, two(126, 0), below(num(625*highest))), highest, api.OK}, {stair(4, 4, 3, 7, two(126, 0), below(num(625*highest-1))), highest, api.ErrOver}, {stair(4, 4, 3, 7, two(126, 0), full), 1, api.ErrOver}, {stair(4, 4, 3, 7, two(126, 0), full), 0, api.OK},
		{stair(4, 4, 1, last, two(127, 0), below(two(108, 0))), highest, api.OK}, {stair(4, 4, 1, last, two(127, 0), below(two(108, -1))), highest, api.ErrOver},
		// The error of the value comes first.
		{level(4, 3, 7, full), -1, api.ErrRange}, {level(4, 3, 7, full), highest + 1, api.ErrRange}, {level(4, 3, 7, full), least, api.ErrRange}, {level(4, 3, 7, full), most, api.ErrRange}, {state(3, 7, top), -1, api.ErrRange}, {state(3, 7, top), highest + 1, api.ErrRange},
	} {
		if why := checkAdd(t, c.x, c.v); why != c.why {
			t.Errorf("case %d: Add(%v, %d) has the error %d, not %d", i, c.x, c.v, why, c.why)
		}
	}
}

// TestAddToEachMoment makes each moment in turn the first that is too great, or as great as it may be.
func TestAddToEachMoment(t *testing.T) {
	seen := map[api.Errno]int{}
	for p := 0; p <= steep; p++ {
		for j := 0; j <= p; j++ {
			for _, c := range places() {
				for _, v := range []int64{1, 77, highest} {
					age := c.now - c.land + 1
					for d := int64(-1); d <= 1; d++ {
						m := plusOf(below(timesOf(num(v), powerOf(age, j))), num(d))
						// The moments before are as small as they may be.
						before := new(big.Int).Div(plusOf(m, num(age-1)), num(age))
						if j == 0 {
							before = m
						}
						x := stair(p, j, c.land, c.now, before, m)
						if !valid(x) {
							t.Fatalf("%v is not valid", x)
						}
						// The last moment grows most.
						why := api.OK
						if d > 0 || !isWide(plusOf(m, timesOf(num(v), powerOf(age, p)))) {
							why = api.ErrOver
						}
						if got := checkAdd(t, x, v); got != why {
							t.Fatalf("Add(%v, %d) has the error %d, not %d", x, v, got, why)
						}
						seen[why]++
					}
				}
			}
		}
	}
	enough(t, seen, 300, api.OK, api.ErrOver)
}

func TestAsk(t *testing.T) {
	for _, c := range []struct {
		x    api.Poly
		want api.Fraction
	}{
		// Right at the landmark.
		{state(0, 0, lows(0)...), api.Fraction{Den: api.Wide{Lo: 1}}}, {state(7, 7, lows(5)...), api.Fraction{Num: api.Wide{Lo: 5}, Den: api.Wide{Lo: 1}}}, {level(4, 7, 7, num(5)), api.Fraction{Num: api.Wide{Lo: 5}, Den: api.Wide{Lo: 1}}}, {level(4, last, last, largeOf(top)), api.Fraction{Num: top, Den: api.Wide{Lo: 1}}}, {level(4, 0, 0, num(0)), api.Fraction{Den: api.Wide{Lo: 1}}},
		// Some ticks after it.
		{state(5, 7, lows(2, 6, 18)...), api.Fraction{Num: api.Wide{Lo: 18}, Den: api.Wide{Lo: 9}}}, {state(5, 8, lows(3, 4, 5, 6)...), api.Fraction{Num: api.Wide{Lo: 6}, Den: api.Wide{Lo: 64}}}, {level(1, 5, 8, num(0)), api.Fraction{Den: api.Wide{Lo: 4}}},
		// MaxTick ticks after it: the powers of 2^24 + 1.
		{state(0, last, lows(5)...), api.Fraction{Num: api.Wide{Lo: 5}, Den: api.Wide{Lo: 1}}}, {state(0, last, top), api.Fraction{Num: top, Den: api.Wide{Lo: 1}}}, {level(1, 0, last, num(5)), api.Fraction{Num: api.Wide{Lo: 5}, Den: api.Wide{Lo: 1<<24 + 1}}}, {level(2, 0, last, num(5)), api.Fraction{Num: api.Wide{Lo: 5}, Den: api.Wide{Lo: 1<<48 + 1<<25 + 1}}}, {level(3, 0, last, num(5)), api.Fraction{Num: api.Wide{Lo: 5}, Den: api.Wide{Hi: 1 << 8, Lo: 3<<48 + 3<<24 + 1}}},
		{level(4, 0, last, num(5)), api.Fraction{Num: api.Wide{Lo: 5}, Den: api.Wide{Hi: 1<<32 + 1<<10, Lo: 6<<48 + 1<<26 + 1}}}, {level(4, 0, last, largeOf(top)), api.Fraction{Num: top, Den: api.Wide{Hi: 1<<32 + 1<<10, Lo: 6<<48 + 1<<26 + 1}}}, {level(4, 1, last, num(0)), api.Fraction{Den: api.Wide{Hi: 1 << 32}}},
	} {
		if got, err := Ask(c.x); got != c.want || err != api.OK {
			t.Errorf("Ask(%v) = %v, %d, not %v", c.x, got, err, c.want)
		}
		checkAsk(t, c.x)
	}
}

func TestRebase(t *testing.T) {
	// The digits of each moment stand apart, so that those of the result show the binomial coefficients: 1; 1 1; 1 2 1; 1 3 3 1; 1 4 6 4 1.
	x := state(20, 9999, lows(2, 3e3, 5e6, 7e9, 11e12)...)
	for _, c := range []struct {
		land    int64
		moments []uint64
	}{
		{20, []uint64{2, 3_000, 5_000_000, 7_000_000_000, 11_000_000_000_000}},
		{19, []uint64{2, 3_002, 5_006_002, 7_015_009_002, 11_028_030_012_002}},
		{18, []uint64{2, 3_004, 5_012_008, 7_030_036_016, 11_056_120_096_032}},
		{10, []uint64{2, 3_020, 5_060_200, 7_150_902_000, 11_283_012_020_000}},
		{0, []uint64{2, 3_040, 5_120_800, 7_303_616_000, 11_572_096_320_000}},
	} {
		for p := 0; p <= steep; p++ {
			got, err := Rebase(state(20, 9999, x.Moments[:p+1]...), c.land)
			step(t, "Rebase", got, err, api.OK, state(c.land, 9999, lows(c.moments[:p+1]...)...))
		}
	}
	for _, land := range []int64{-1, -20, 21, 22, 9999, 10000, last, last + 1, least, least + 20, most, 1 << 32, 1<<32 + 5, -1 << 32} {
		got, err := Rebase(x, land)
		step(t, "Rebase", got, err, api.ErrArg, api.Poly{})
	}
}

// TestEachBinomialCoefficient has a rest for each of the coefficients alone: the moments up to i - 1 are the same in two counters.
func TestEachBinomialCoefficient(t *testing.T) {
	pascal := [][]int64{{1}, {1, 1}, {1, 2, 1}, {1, 3, 3, 1}, {1, 4, 6, 4, 1}}
	for j, row := range pascal {
		for i, ways := range row {
			for _, d := range []int64{1, 2, 1000} {
				low := level(j, d, last, num(1000))
				high := changed(low, i, wideOf(num(1001)))
				for k := i + 1; k <= j; k++ {
					low.Moments[k], high.Moments[k] = wideOf(num(2000)), wideOf(num(2000))
				}
				a, err := Rebase(low, 0)
				b, why := Rebase(high, 0)
				if err != api.OK || why != api.OK {
					t.Fatalf("Rebase to 0 has the errors %d and %d", err, why)
				}
				grown := minusOf(largeOf(b.Moments[j]), largeOf(a.Moments[j]))
				if want := timesOf(num(ways), powerOf(d, j-i)); grown.Cmp(want) != 0 {
					t.Errorf("the moment %d grows by %v with the moment %d, not by %v", j, grown, i, want)
				}
			}
		}
	}
}

func TestRebaseOfStates(t *testing.T) {
	seen := map[api.Errno]int{}
	for _, x := range validStates() {
		for _, land := range []int64{x.Land, x.Land - 1, x.Land - 2, x.Land / 2, 1, 0, x.Land + 1, -1, x.Now, last, least, most} {
			why := checkRebase(t, x, land)
			seen[why]++
			if y, _ := Rebase(x, land); why == api.OK && Validate(y) != api.OK {
				t.Fatalf("Rebase(%v, %d) = %v is not valid", x, land, y)
			}
		}
	}
	enough(t, seen, 3000, api.OK, api.ErrArg, api.ErrOver)
}

// ripe returns a counter with the landmark d, of which the last moment is a number n greater than the greatest api.Wide after a rebase to 0. Its other moments are those of an item of the age a.
func ripe(p int, d, a, n int64) api.Poly {
	v := new(big.Int).Div(largeOf(top), powerOf(d+a, p))
	rest := plusOf(largeOf(top), num(n))
	var list []api.Wide
	for i := range p {
		m := timesOf(v, powerOf(a, i))
		list = append(list, wideOf(m))
		rest = minusOf(rest, timesOf(new(big.Int).Binomial(int64(p), int64(i)), timesOf(powerOf(d, p-i), m)))
	}
	return state(d, last, append(list, wideOf(rest))...)
}

// TestRebaseAtTheTop makes the last moment just the greatest api.Wide, and just greater.
func TestRebaseAtTheTop(t *testing.T) {
	for p := 1; p <= steep; p++ {
		for _, c := range []struct{ d, a int64 }{{1, 2}, {2, 3}, {3, 2}, {7, 1000}, {1000, 3}, {1, last / 3}, {1 << 20, 1000}, {1 << 20, last / 3}, {last / 2, 1 << 16}, {last / 2, last / 3}} {
			for _, n := range []int64{-1, 0, 1, 2} {
				x := ripe(p, c.d, c.a, n)
				if !valid(x) {
					t.Fatalf("%v breaks %v", x, broken(x))
				}
				why := api.OK
				if n > 0 {
					why = api.ErrOver
				}
				if got := checkRebase(t, x, 0); got != why {
					t.Fatalf("Rebase(%v, 0) has the error %d, not %d", x, got, why)
				}
				if y, _ := Rebase(x, 0); n == 0 && y.Moments[p] != top {
					t.Fatalf("Rebase(%v, 0) = %v, not the greatest api.Wide", x, y)
				}
			}
		}
	}
}

func TestRebaseAboveTheTop(t *testing.T) {
	full := largeOf(top)
	for i, c := range []struct {
		x    api.Poly
		land int64
		why  api.Errno
	}{
		// The power 0 and a rebase by nothing leave everything as it is.
		{state(3, 7, top), 0, api.OK}, {state(3, 7, top), 3, api.OK}, {level(4, 3, 7, full), 3, api.OK}, {level(4, 0, 7, full), 0, api.OK}, {level(4, last, last, full), last, api.OK}, {level(4, 3, 7, full), 2, api.ErrOver},
		// A sum does not fit, or already a term.
		{level(1, 1, 1, two(127, 0)), 0, api.ErrOver}, {level(1, 1, 1, two(127, -1)), 0, api.OK}, {level(2, 1, 1, two(126, 0)), 0, api.ErrOver}, {level(2, 1, 1, two(126, -1)), 0, api.OK}, {level(3, 1, 1, two(125, 0)), 0, api.ErrOver}, {level(3, 1, 1, two(125, -1)), 0, api.OK}, {level(4, 1, 1, two(124, 0)), 0, api.ErrOver}, {level(4, 1, 1, two(124, -1)), 0, api.OK}, {level(1, 2, 2, two(127, 0)), 0, api.ErrOver}, {level(1, last, last, two(104, 0)), 0, api.ErrOver}, {level(1, last, last, two(103, 0)), 0, api.OK}, {level(4, last, last, two(32, 0)), 0, api.ErrOver}, {level(4, last, last, two(31, 0)), 0, api.OK}, {level(4, last, last, two(64, 0)), 0, api.ErrOver}, {level(2, last, last, two(64, 0)), 0, api.OK}, {level(2, last, last, two(80, 0)), 0, api.ErrOver}, {level(4, 1<<16, last, two(64, 0)), 0, api.ErrOver}, {level(4, 1<<16, last, two(63, 0)), 0, api.OK},
		// A middle moment is too great, and those behind it.
		{stair(3, 2, 1, last, two(126, 0), two(127, 0)), 0, api.ErrOver}, {stair(3, 1, 1, last, two(127, 0), two(127, 0)), 0, api.ErrOver}, {stair(4, 2, 1, last, two(126, 0), full), 0, api.ErrOver},
		// The error of the landmark comes first.
		{level(4, 3, 7, full), 4, api.ErrArg}, {level(4, 3, 7, full), -1, api.ErrArg}, {level(4, 3, 7, full), least, api.ErrArg}, {level(4, 3, 7, full), most, api.ErrArg}, {level(1, last, last, full), last + 1, api.ErrArg}, {level(1, 0, last, full), -1, api.ErrArg},
	} {
		if got := checkRebase(t, c.x, c.land); got != c.why {
			t.Errorf("case %d: Rebase(%v, %d) has the error %d, not %d", i, c.x, c.land, got, c.why)
		}
	}
}

func TestMerge(t *testing.T) {
	// The items (5, 2) and (7, 3); the item (6, 4).
	a, b := state(5, 7, lows(5, 11, 29, 83, 245)...), state(6, 7, lows(4, 4, 4, 4, 4)...)
	both := state(5, 7, lows(9, 19, 45, 115, 309)...)
	empty := level(4, 7, 7, num(0))
	for _, c := range []struct{ a, b, want api.Poly }{
		{a, b, both}, {b, a, both}, {a, empty, a}, {empty, a, a}, {empty, empty, empty}, {b, level(4, 5, 7, num(0)), state(5, 7, lows(4, 8, 16, 32, 64)...)},
		// Equal landmarks.
		{a, a, state(5, 7, lows(10, 22, 58, 166, 490)...)}, {b, b, level(4, 6, 7, num(8))}, {state(5, 7, lows(3)...), state(5, 7, lows(4)...), state(5, 7, lows(7)...)}, {state(0, last, lows(3, 5)...), state(0, last, lows(4, 4)...), state(0, last, lows(7, 9)...)},
		// The lesser landmark is the first one, or the second one.
		{state(5, 7, lows(3)...), state(0, 7, lows(4)...), state(0, 7, lows(7)...)}, {state(0, 7, lows(3)...), state(5, 7, lows(4)...), state(0, 7, lows(7)...)}, {state(5, 7, lows(3, 6)...), state(0, 7, lows(4, 9)...), state(0, 7, lows(7, 30)...)}, {state(0, 7, lows(4, 9)...), state(5, 7, lows(3, 6)...), state(0, 7, lows(7, 30)...)}, {state(0, last, lows(0, 0)...), state(last, last, lows(1, 1)...), state(0, last, lows(1, last+1)...)}, {state(last, last, lows(1, 1)...), state(0, last, lows(0, 0)...), state(0, last, lows(1, last+1)...)},
	} {
		got, err := Merge(c.a, c.b)
		step(t, "Merge", got, err, api.OK, c.want)
		checkMerge(t, c.a, c.b)
	}
}

// TestMergeErrors has the errors alone and together.
func TestMergeErrors(t *testing.T) {
	full := largeOf(top)
	good, bad := level(1, 3, 7, num(5)), state(3, 7, lows(5, 4)...)
	for i, c := range []struct {
		a, b api.Poly
		why  api.Errno
	}{
		{bad, good, api.ErrState}, {good, bad, api.ErrState}, {bad, bad, api.ErrState}, {api.Poly{}, good, api.ErrState}, {good, api.Poly{}, api.ErrState}, {api.Poly{}, api.Poly{}, api.ErrState},
		// The power or the tick differs.
		{good, level(0, 3, 7, num(5)), api.ErrArg}, {level(0, 3, 7, num(5)), good, api.ErrArg}, {good, level(2, 3, 7, num(5)), api.ErrArg}, {level(4, 3, 7, num(5)), good, api.ErrArg}, {good, at(good, 3, 8), api.ErrArg}, {at(good, 3, 8), good, api.ErrArg}, {good, at(good, 3, 6), api.ErrArg}, {at(good, 0, 0), at(good, 0, last), api.ErrArg}, {good, level(2, 3, 8, num(5)), api.ErrArg},
		// A state is invalid, too.
		{bad, level(2, 3, 7, num(5)), api.ErrState}, {bad, at(good, 3, 8), api.ErrState}, {at(good, 3, 8), bad, api.ErrState}, {level(0, 3, 7, num(5)), bad, api.ErrState},
		// A sum is too great, in the first moment or the last one alone.
		{level(0, 3, 7, full), level(0, 3, 7, num(0)), api.OK}, {level(0, 3, 7, full), level(0, 3, 7, num(1)), api.ErrOver}, {level(0, 3, 7, num(1)), level(0, 3, 7, full), api.ErrOver}, {level(4, 3, 7, below(num(5))), level(4, 3, 7, num(5)), api.OK}, {level(4, 3, 7, below(num(4))), level(4, 3, 7, num(5)), api.ErrOver}, {level(4, 3, 7, two(127, 0)), level(4, 3, 7, two(127, -1)), api.OK}, {level(4, 3, 7, two(127, 0)), level(4, 3, 7, two(127, 0)), api.ErrOver}, {level(4, 3, 7, full), level(4, 3, 7, full), api.ErrOver},
		{stair(1, 1, 3, 7, two(126, 0), below(num(9))), state(3, 7, lows(5, 9)...), api.OK}, {stair(1, 1, 3, 7, two(126, 0), below(num(9))), state(3, 7, lows(5, 10)...), api.ErrOver}, {stair(4, 4, 3, 7, two(126, 0), below(num(9))), state(3, 7, lows(5, 5, 6, 7, 9)...), api.OK}, {stair(4, 4, 3, 7, two(126, 0), below(num(9))), state(3, 7, lows(5, 5, 6, 7, 10)...), api.ErrOver}, {stair(4, 2, 3, 7, two(126, 0), below(num(9))), state(3, 7, lows(5, 5, 10, 10, 10)...), api.ErrOver},
		// A rebased counter is too great already, the first or the second one.
		{level(1, 1, 1, two(127, 0)), level(1, 0, 1, num(0)), api.ErrOver}, {level(1, 0, 1, num(0)), level(1, 1, 1, two(127, 0)), api.ErrOver}, {level(1, 1, 1, two(127, -1)), level(1, 0, 1, num(0)), api.OK}, {level(4, 3, 7, full), level(4, 2, 7, num(0)), api.ErrOver}, {level(4, 2, 7, num(0)), level(4, 3, 7, full), api.ErrOver}, {level(4, 3, 7, full), level(4, 3, 7, num(0)), api.OK}, {level(4, 3, 7, num(0)), level(4, 3, 7, full), api.OK}, {level(4, 2, 7, full), level(4, 3, 7, num(0)), api.OK},
		{ripe(4, 5, 3, 0), level(4, 0, last, num(0)), api.OK}, {ripe(4, 5, 3, 0), level(4, 0, last, num(1)), api.ErrOver}, {ripe(4, 5, 3, -1), level(4, 0, last, num(1)), api.OK}, {level(4, 0, last, num(1)), ripe(4, 5, 3, -1), api.OK}, {ripe(4, 5, 3, 1), level(4, 0, last, num(0)), api.ErrOver}, {level(4, 0, last, num(0)), ripe(4, 5, 3, 1), api.ErrOver},
		// The other errors come first.
		{level(4, 3, 7, full), level(3, 3, 7, full), api.ErrArg}, {level(4, 3, 7, full), level(4, 3, 8, full), api.ErrArg}, {level(4, 3, 7, full), level(4, 2, 6, full), api.ErrArg}, {level(1, 1, 1, full), level(2, 0, 1, full), api.ErrArg}, {level(1, 3, 7, full), bad, api.ErrState}, {bad, level(1, 2, 7, full), api.ErrState}, {stair(1, 1, 3, 7, full, num(0)), level(1, 3, 7, full), api.ErrState}, {level(1, 3, 7, full), stair(1, 1, 3, 7, full, num(0)), api.ErrState},
	} {
		if got := checkMerge(t, c.a, c.b); got != c.why {
			t.Errorf("case %d: Merge(%v, %v) has the error %d, not %d", i, c.a, c.b, got, c.why)
		}
	}
}

// TestMergeOfStates merges states at the limits with each other, most of them of the same power and tick.
func TestMergeOfStates(t *testing.T) {
	source := rand.New(rand.NewSource(31))
	states := validStates()
	seen := map[api.Errno]int{}
	for range 60000 {
		a := states[source.Intn(len(states))]
		b := states[source.Intn(len(states))]
		if source.Intn(10) > 0 {
			now := max(a.Now, b.Now)
			a, b = at(a, a.Land, now), at(b, b.Land, now)
		}
		if n := min(a.P, b.P); source.Intn(10) > 0 {
			a, b = state(a.Land, a.Now, a.Moments[:n+1]...), state(b.Land, b.Now, b.Moments[:n+1]...)
		}
		why := checkMerge(t, a, b)
		seen[why]++
		if y, _ := Merge(a, b); why == api.OK && Validate(y) != api.OK {
			t.Fatalf("Merge(%v, %v) = %v is not valid", a, b, y)
		}
	}
	enough(t, seen, 5000, api.OK, api.ErrArg, api.ErrOver)
}
