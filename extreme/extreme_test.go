package extreme

import (
	"math"
	"slices"
	"testing"

	"windowpane/api"
)

// step checks the result of a call.
func step(t *testing.T, name string, got api.Extreme, err, why api.Errno, want api.Extreme) {
	t.Helper()
	if err != why || !same(got, want) {
		t.Fatalf("%s = %v, %d, not %v, %d", name, got, err, want, why)
	}
}

// checkAdvance, checkAdd, checkAsk and checkMerge compare a function with what the chapter says.
func checkAdvance(t *testing.T, x api.Extreme, now int64) api.Errno {
	t.Helper()
	want, why := later(x, now)
	if got, err := Advance(x, now); !same(got, want) || err != why {
		t.Fatalf("Advance(%v, %d) = %v, %d, not %v, %d", x, now, got, err, want, why)
	}
	return why
}

func checkAdd(t *testing.T, x api.Extreme, v int64) api.Errno {
	t.Helper()
	want, why := included(x, v)
	if got, err := Add(x, v); !same(got, want) || err != why {
		t.Fatalf("Add(%v, %d) = %v, %d, not %v, %d", x, v, got, err, want, why)
	}
	return why
}

func checkAsk(t *testing.T, x api.Extreme) api.Errno {
	t.Helper()
	want, why := asked(x)
	if got, err := Ask(x); got != want || err != why {
		t.Fatalf("Ask(%v) = %v, %d, not %v, %d", x, got, err, want, why)
	}
	return why
}

func checkMerge(t *testing.T, a, b api.Extreme) api.Errno {
	t.Helper()
	want, why := joined(a, b)
	if got, err := Merge(a, b); !same(got, want) || err != why {
		t.Fatalf("Merge(%v, %v) = %v, %d, not %v, %d", a, b, got, err, want, why)
	}
	return why
}

// enough reports results that are too much alike.
func enough(t *testing.T, seen map[api.Errno]int, n int, codes ...api.Errno) {
	t.Helper()
	for _, why := range codes {
		if seen[why] < n {
			t.Errorf("the code %d is expected only %d times", why, seen[why])
		}
	}
}

// TestPage is the chapter's example, and goes on with it; for both ends of the values.
func TestPage(t *testing.T) {
	for _, turn := range []func(api.Extreme) api.Extreme{func(x api.Extreme) api.Extreme { return x }, mirrored} {
		max := turn(state(3, 9, 0)).Max
		sign := int64(1)
		if !max {
			sign = -1
		}
		answer := func(x api.Extreme, v int64, why api.Errno) {
			t.Helper()
			if got, err := Ask(x); got != sign*v || err != why {
				t.Fatalf("Ask(%v) = %d, %d, not %d, %d", x, got, err, sign*v, why)
			}
		}
		x, err := New(max, 3, 9, 0)
		step(t, "New", x, err, api.OK, turn(state(3, 9, 0)))
		answer(x, 0, api.ErrEmpty)
		x, err = Add(x, sign*5)
		step(t, "Add at tick 0", x, err, api.OK, turn(state(3, 9, 0, 0, 5)))
		answer(x, 5, api.OK)
		x, err = Advance(x, 1)
		step(t, "Advance to 1", x, err, api.OK, turn(state(3, 9, 1, 0, 5)))
		x, err = Add(x, sign*2)
		step(t, "Add at tick 1", x, err, api.OK, turn(state(3, 9, 1, 0, 5, 1, 2)))
		x, err = Advance(x, 2)
		step(t, "Advance to 2", x, err, api.OK, turn(state(3, 9, 2, 0, 5, 1, 2)))
		x, err = Add(x, sign*4)
		step(t, "Add at tick 2", x, err, api.OK, turn(state(3, 9, 2, 0, 5, 2, 4)))
		answer(x, 5, api.OK)
		x, err = Advance(x, 3)
		step(t, "Advance to 3", x, err, api.OK, turn(state(3, 9, 3, 2, 4)))
		answer(x, 4, api.OK)
		x, err = Advance(x, 4)
		step(t, "Advance to 4", x, err, api.OK, turn(state(3, 9, 4, 2, 4)))
		answer(x, 4, api.OK)
		x, err = Advance(x, 5)
		step(t, "Advance to 5", x, err, api.OK, turn(state(3, 9, 5)))
		answer(x, 0, api.ErrEmpty)
	}
}

func TestNew(t *testing.T) {
	seen := map[api.Errno]int{}
	caps := []int{math.MinInt, math.MinInt + 1, -fullest, -1, 0, 1, 2, 3, fullest - 1, fullest, fullest + 1, fullest * 2, math.MaxInt32, 1<<32 + 1, math.MaxInt}
	for _, w := range append(edges(), 5) {
		for _, now := range append(edges(), 7) {
			for _, n := range caps {
				for _, max := range []bool{true, false} {
					want, why := api.Extreme{Max: max, W: w, Cap: n, Now: now}, api.OK
					if !window(w) || !size(n) || !tick(now) {
						want, why = api.Extreme{}, api.ErrArg
					}
					seen[why]++
					got, err := New(max, w, n, now)
					if !same(got, want) || err != why {
						t.Errorf("New(%t, %d, %d, %d) = %v, %d", max, w, n, now, got, err)
					}
					if err == api.OK && Validate(got) != api.OK {
						t.Errorf("New(%t, %d, %d, %d) is not valid", max, w, n, now)
					}
				}
			}
		}
	}
	enough(t, seen, 1000, api.OK, api.ErrArg)
}

func TestNewAtTheLimits(t *testing.T) {
	for _, c := range []struct {
		w   int64
		cap int
		now int64
		ok  bool
	}{
		{1, 1, 0, true}, {1, 1, last, true}, {longest, fullest, last, true}, {longest, fullest, 0, true}, {longest, 1, 7, true}, {1, fullest, last, true}, {longest - 1, fullest - 1, last - 1, true}, {3, 9, 0, true},
		{0, 1, 0, false}, {-1, 1, 0, false}, {longest + 1, 1, 0, false}, {longest + 1, 1, last, false}, {least, 1, 0, false}, {most, 1, 0, false}, {1<<32 + 1, 1, 0, false}, {1, 0, 0, false}, {1, -1, 0, false}, {1, fullest + 1, 0, false}, {1, math.MinInt, 0, false}, {1, math.MaxInt, 0, false}, {1, 1, -1, false}, {1, 1, last + 1, false}, {longest, fullest, last + 1, false}, {1, 1, least, false}, {1, 1, most, false}, {1, 1, 1 << 32, false}, {0, 0, -1, false}, {longest + 1, fullest + 1, last + 1, false},
	} {
		for _, max := range []bool{true, false} {
			want, why := api.Extreme{Max: max, W: c.w, Cap: c.cap, Now: c.now}, api.OK
			if !c.ok {
				want, why = api.Extreme{}, api.ErrArg
			}
			x, err := New(max, c.w, c.cap, c.now)
			step(t, "New", x, err, why, want)
		}
	}
}

func TestValidate(t *testing.T) {
	for i, c := range []struct {
		x  api.Extreme
		ok bool
	}{
		{api.Extreme{}, false}, {state(3, 2, 5), true}, {api.Extreme{W: 3, Cap: 2, Now: 5, Items: []api.Item{}}, true},
		// W, Cap and Now.
		{state(1, 1, 0), true}, {state(longest, fullest, last), true}, {state(0, 2, 5), false}, {state(-1, 2, 5), false}, {state(longest+1, 2, 5), false}, {state(least, 2, 5), false}, {state(most, 2, 5), false}, {state(3, 0, 5), false}, {state(3, -1, 5), false}, {state(3, fullest+1, 5), false}, {state(3, 2, -1), false}, {state(3, 2, last+1), false}, {state(3, 2, last+1, last, 1), false}, {state(longest+1, 2, 5, 5, 1), false}, {state(3, fullest+1, 5, 5, 1), false},
		// The number of items.
		{state(3, 1, 5, 5, 1), true}, {state(3, 2, 5, 3, 9, 4, 8), true}, {state(3, 3, 5, 3, 9, 4, 8, 5, 7), true}, {state(3, 2, 5, 3, 9, 4, 8, 5, 7), false}, {state(3, 1, 5, 3, 9, 4, 8), false},
		// The window.
		{state(3, 2, 5, 3, 1), true}, {state(3, 2, 5, 2, 1), false}, {state(3, 2, 5, 6, 1), false}, {state(3, 2, 5, 2, 5, 5, 1), false}, {state(3, 2, 5, 5, 5, 6, 1), false}, {state(1, 1, 5, 5, 1), true}, {state(1, 1, 5, 4, 1), false}, {state(longest, 2, last, last-longest+1, 2, last, 1), true}, {state(longest, 2, last, last-longest, 2, last, 1), false}, {state(longest, 2, 5, 0, 2), true}, {state(longest, 2, 5, -1, 2), false}, {state(longest, 2, 5, least, 2), false}, {state(longest, 2, last, last+1, 2), false}, {state(longest, 2, last, most, 2), false},
		// Values.
		{state(3, 2, 5, 4, highest, 5, -highest), true}, {state(3, 2, 5, 4, highest+1, 5, -highest), false}, {state(3, 2, 5, 4, highest, 5, -highest-1), false}, {state(3, 2, 5, 5, most), false}, {state(3, 2, 5, 5, least), false}, {state(3, 2, 5, 5, 1<<32), false},
		// The order of ticks and values.
		{state(9, 9, 9, 1, 5, 2, 4, 9, -4), true}, {state(9, 9, 9, 1, 5, 1, 4, 9, -4), false}, {state(9, 9, 9, 1, 5, 9, 4, 9, -4), false}, {state(9, 9, 9, 2, 5, 1, 4, 9, -4), false}, {state(9, 9, 9, 1, 5, 9, 4, 2, -4), false}, {state(9, 9, 9, 1, 5, 2, 5, 9, -4), false}, {state(9, 9, 9, 1, 5, 2, -4, 9, -4), false}, {state(9, 9, 9, 1, 4, 2, 5, 9, -4), false}, {state(9, 9, 9, 1, 5, 2, -4, 9, 4), false}, {state(9, 9, 9, 9, 5, 9, 5), false},
	} {
		for _, x := range []api.Extreme{c.x, mirrored(c.x)} {
			if got := Validate(x); got != code(c.ok) || valid(x) != c.ok {
				t.Errorf("case %d: Validate(%v) = %d", i, x, got)
			}
		}
	}
}

// TestOtherEnd checks that Max says in which order the values are: two or more in the one order are not in the other one.
func TestOtherEnd(t *testing.T) {
	seen := map[api.Errno]int{}
	for _, x := range validStates() {
		x.Max = !x.Max
		why := code(len(x.Items) < 2)
		seen[why]++
		if got := Validate(x); got != why {
			t.Fatalf("Validate(%v) = %d, not %d", x, got, why)
		}
	}
	enough(t, seen, 1000, api.OK, api.ErrState)
}

func TestValidStates(t *testing.T) {
	list := validStates()
	for _, x := range list {
		if got := Validate(x); got != api.OK || !valid(x) {
			t.Fatalf("Validate(%v) = %d, broken %v", x, got, broken(x))
		}
	}
	if len(list) < 4000 {
		t.Errorf("there are only %d states", len(list))
	}
}

// TestConditions checks the states that break one condition alone.
func TestConditions(t *testing.T) {
	all := oneBroken()
	for condition, states := range all {
		for _, x := range states {
			if got := Validate(x); got != api.ErrState || !slices.Equal(broken(x), []int{condition}) {
				t.Fatalf("Validate(%v) = %d, with %v broken, not %d alone", x, got, broken(x), condition)
			}
		}
	}
	for condition, n := range []int{1: 150, 2: 70, 3: 100, 4: 60, 5: 200, 6: 200, 7: 200, 8: 200} {
		if len(all[condition]) < n {
			t.Errorf("only %d states break condition %d", len(all[condition]), condition)
		}
	}
}

// TestInvalidStates calls all functions with states that are not valid: with good arguments, and with such that would be errors themselves.
func TestInvalidStates(t *testing.T) {
	for i, x := range invalidStates() {
		if valid(x) {
			t.Fatalf("state %d is valid: %v", i, x)
		}
		if err := Validate(x); err != api.ErrState {
			t.Fatalf("Validate(%v) = %d", x, err)
		}
		for _, n := range []int64{x.Now, 0, 1, 9, last, -1, last + 1, highest, highest + 1, -highest - 1, least, most} {
			if checkAdvance(t, x, n) != api.ErrState || checkAdd(t, x, n) != api.ErrState {
				t.Fatalf("%v is not refused", x)
			}
		}
		if checkAsk(t, x) != api.ErrState {
			t.Fatalf("%v is not refused", x)
		}
		good := api.Extreme{Max: x.Max, W: x.W, Cap: x.Cap, Now: x.Now}
		for _, y := range []api.Extreme{good, x, mirrored(good), state(3, 2, 5, 5, 1), mirrored(state(9, 9, 9, 8, 1, 9, 0)), state(longest, fullest, last), {}} {
			if checkMerge(t, x, y) != api.ErrState || checkMerge(t, y, x) != api.ErrState {
				t.Fatalf("%v and %v are not refused", x, y)
			}
		}
	}
}

// smallStates calls try with all states of these sizes and ticks, with up to 3 items.
func smallStates(try func(x api.Extreme)) {
	var extend func(x api.Extreme)
	extend = func(x api.Extreme) {
		try(x)
		if len(x.Items) == 3 {
			return
		}
		for at := int64(-1); at <= 4; at++ {
			for v := int64(0); v <= 2; v++ {
				extend(with(x, append(slices.Clone(x.Items), it(at, v)...)...))
			}
		}
	}
	for w := int64(0); w <= 4; w++ {
		for n := 0; n <= 3; n++ {
			for now := int64(-1); now <= 3; now++ {
				extend(api.Extreme{Max: true, W: w, Cap: n, Now: now})
				extend(api.Extreme{W: w, Cap: n, Now: now})
			}
		}
	}
}

func TestAllSmallStates(t *testing.T) {
	seen := map[api.Errno]int{}
	smallStates(func(x api.Extreme) {
		why := code(valid(x))
		seen[why]++
		if err := Validate(x); err != why {
			t.Fatalf("Validate(%v) = %d, not %d", x, err, why)
		}
		if why != api.OK {
			return
		}
		for n := int64(-1); n <= 8; n++ {
			seen[checkAdvance(t, x, n)]++
			seen[checkAdd(t, x, n)]++
		}
		seen[checkAsk(t, x)]++
	})
	enough(t, seen, 50, api.OK, api.ErrState, api.ErrTime, api.ErrFull, api.ErrEmpty)
}
