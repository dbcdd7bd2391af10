package chain

import (
	"math"
	"slices"
	"testing"

	"windowpane/api"
)

// checkAdd, checkNeeds and checkAsk compare a function with what the chapter says.
func checkAdd(t *testing.T, x api.Chain, v int64, draws []int64, at int) api.Errno {
	t.Helper()
	want, r, why := added(x, v, draws, at)
	if why != api.OK {
		r.at = 0
	}
	if got, next, err := Add(x, v, draws, at); !same(got, want) || next != r.at || err != why {
		t.Fatalf("Add(%v, %d, %v, %d) = %v, %d, %d, not %v, %d, %d", x, v, draws, at, got, next, err, want, r.at, why)
	}
	checkNeeds(t, x, v, draws, at)
	return why
}

func checkNeeds(t *testing.T, x api.Chain, v int64, draws []int64, at int) bool {
	t.Helper()
	want, is := needed(x, v, draws, at)
	if m, ok := Needs(x, v, draws, at); m != want || ok != is {
		t.Fatalf("Needs(%v, %d, %v, %d) = %d, %t, not %d, %t", x, v, draws, at, m, ok, want, is)
	}
	return is
}

func checkAsk(t *testing.T, x api.Chain) api.Errno {
	t.Helper()
	want, why := asked(x)
	if got, err := Ask(x); got != want || err != why {
		t.Fatalf("Ask(%v) = %d, %d, not %d, %d", x, got, err, want, why)
	}
	return why
}

// enough reports results that are too much alike.
func enough(t *testing.T, seen map[api.Errno]int, n int, codes ...api.Errno) {
	t.Helper()
	for _, why := range codes {
		if seen[why] < n {
			t.Errorf("the code %d is expected only %d times", why, seen[why])
		}
	}
}

// TestPage is the chapter's example.
func TestPage(t *testing.T) {
	needs := func(x api.Chain, draws []int64, m int64) {
		t.Helper()
		if got, ok := Needs(x, 20, draws, 0); got != m || ok != (m > 0) {
			t.Fatalf("Needs(%v, %v) = %d, %t, not %d", x, draws, got, ok, m)
		}
	}
	adds := func(x api.Chain, v int64, draws []int64, want api.Chain) {
		t.Helper()
		if got, at, err := Add(x, v, draws, 0); err != api.OK || at != len(draws) || !same(got, want) {
			t.Fatalf("Add(%v, %d, %v) = %v, %d, %d, not %v", x, v, draws, got, at, err, want)
		}
	}
	x, err := New(2, 9)
	if err != api.OK || !same(x, state(2, 9, 0, 0)) {
		t.Fatalf("New(2, 9) = %v, %d", x, err)
	}
	needs(x, nil, 1)
	needs(x, []int64{0}, 2)
	needs(x, []int64{0, 0}, 0)
	adds(x, 10, []int64{0, 0}, state(2, 9, 1, 2, 1, 10))
	adds(x, 10, []int64{0, 1}, state(2, 9, 1, 3, 1, 10))
	y := state(2, 9, 1, 2, 1, 10)
	needs(y, nil, 2)
	needs(y, []int64{0}, 2)
	needs(y, []int64{1}, 2)
	needs(y, []int64{0, 1}, 0)
	needs(y, []int64{1, 0}, 0)
	adds(y, 20, []int64{0, 0}, state(2, 9, 2, 3, 2, 20))
	adds(y, 20, []int64{0, 1}, state(2, 9, 2, 4, 2, 20))
	adds(y, 20, []int64{1, 0}, state(2, 9, 2, 3, 1, 10, 2, 20))
	adds(y, 20, []int64{1, 1}, state(2, 9, 2, 4, 1, 10, 2, 20))
	z := state(2, 9, 1, 3, 1, 10)
	needs(z, []int64{1}, 0)
	adds(z, 20, []int64{1}, state(2, 9, 2, 3, 1, 10))
}

func TestNew(t *testing.T) {
	seen := map[api.Errno]int{}
	caps := []int{math.MinInt, math.MinInt + 1, -fullest, -2, -1, 0, 1, 2, 3, 30, fullest - 1, fullest, fullest + 1, fullest * 2, math.MaxInt32, 1 << 32, 1<<32 + 1, math.MaxInt}
	for _, w := range append(edges(), 5) {
		for _, n := range caps {
			want, why := api.Chain{W: w, Cap: n}, api.OK
			if !window(w) || !size(n) {
				want, why = api.Chain{}, api.ErrArg
			}
			seen[why]++
			got, err := New(w, n)
			if !same(got, want) || err != why {
				t.Errorf("New(%d, %d) = %v, %d", w, n, got, err)
			}
			if err == api.OK && (Validate(got) != api.OK || checkAsk(t, got) != api.ErrEmpty) {
				t.Errorf("New(%d, %d) is not an empty sample", w, n)
			}
		}
	}
	enough(t, seen, 50, api.OK, api.ErrArg)
}

func TestNewAtTheLimits(t *testing.T) {
	for _, c := range []struct {
		w   int64
		cap int
		ok  bool
	}{
		{1, 1, true}, {1, fullest, true}, {longest, 1, true}, {longest, fullest, true}, {longest - 1, fullest - 1, true}, {3, 9, true},
		{0, 1, false}, {-1, 1, false}, {longest + 1, 1, false}, {longest + 1, fullest, false}, {least, 1, false}, {most, 1, false}, {1<<32 + 1, 1, false}, {1, 0, false}, {1, -1, false}, {1, fullest + 1, false}, {longest, fullest + 1, false}, {1, math.MinInt, false}, {1, math.MaxInt, false}, {1, 1<<32 + 1, false}, {0, 0, false}, {longest + 1, fullest + 1, false},
	} {
		want, why := api.Chain{W: c.w, Cap: c.cap}, api.OK
		if !c.ok {
			want, why = api.Chain{}, api.ErrArg
		}
		if x, err := New(c.w, c.cap); !same(x, want) || err != why {
			t.Errorf("New(%d, %d) = %v, %d", c.w, c.cap, x, err)
		}
	}
}

func TestValidate(t *testing.T) {
	for i, c := range []struct {
		x  api.Chain
		ok bool
	}{
		{api.Chain{}, false}, {state(3, 2, 0, 0), true}, {api.Chain{W: 3, Cap: 2, Links: []api.Link{}}, true}, {state(3, 2, 5, 6, 3, 1), true},
		// W, Cap and I.
		{state(1, 1, 0, 0), true}, {state(longest, fullest, 0, 0), true}, {state(1, 1, 1, 2, 1, 5), true}, {state(longest, fullest, total, total+1, total, 5), true}, {state(0, 2, 0, 0), false}, {state(-1, 2, 0, 0), false}, {state(longest+1, 2, 0, 0), false}, {state(longest+1, 2, 5, 6, 5, 1), false}, {state(least, 2, 0, 0), false}, {state(most, 2, 5, 6, 5, 1), false}, {state(3, 0, 0, 0), false}, {state(3, -1, 0, 0), false}, {state(3, fullest+1, 0, 0), false}, {state(3, fullest+1, 5, 6, 5, 1), false}, {state(3, 2, -1, 0), false}, {state(3, 2, total+1, total+2, total+1, 1), false}, {state(3, 2, total+1, total+2, total, 1), false}, {state(3, 2, least, least+1), false}, {state(3, 2, most, most, most, 1), false},
		// No items.
		{state(3, 2, 0, 1), false}, {state(3, 2, 0, -1), false}, {state(3, 2, 0, most), false}, {state(3, 2, 0, 0, 0, 0), false}, {state(3, 2, 0, 0, 1, 5), false}, {state(3, 2, 0, 1, 0, 5), false},
		// The number of links.
		{state(3, 1, 5, 6, 3, 1), true}, {state(3, 2, 5, 6, 3, 9, 4, 8), true}, {state(3, 3, 5, 6, 3, 9, 4, 8, 5, 7), true}, {state(3, 2, 5, 6, 3, 9, 4, 8, 5, 7), false}, {state(3, 1, 5, 6, 3, 9, 4, 8), false}, {state(3, 2, 5, 6), false}, {state(1, 1, 1, 2), false}, {full(fullest), true}, {with(full(fullest), 1001, row(fullest-1, 938)...), true},
		// Values.
		{state(3, 2, 5, 6, 4, highest, 5, -highest), true}, {state(3, 2, 5, 6, 4, highest+1, 5, -highest), false}, {state(3, 2, 5, 6, 4, highest, 5, -highest-1), false}, {state(3, 2, 5, 6, 5, most), false}, {state(3, 2, 5, 6, 5, least), false}, {state(3, 2, 5, 6, 5, 1<<32), false},
		// The window.
		{state(3, 2, 5, 6, 3, 1, 5, 1), true}, {state(3, 2, 5, 6, 2, 1, 5, 1), false}, {state(3, 2, 5, 6, 2, 1, 4, 1), false}, {state(3, 2, 5, 5, 2, 1), false}, {state(3, 2, 2, 3, 1, 1), true}, {state(3, 2, 2, 3, 0, 1), false}, {state(3, 2, 2, 3, 0, 1, 2, 1), false}, {state(9, 2, 2, 3, -1, 1), false}, {state(1, 1, 5, 6, 5, 1), true}, {state(1, 2, 5, 6, 4, 1, 5, 1), false}, {state(longest, 2, total, total+1, total-longest+1, 2, total, 1), true}, {state(longest, 2, total, total+1, total-longest, 2, total, 1), false}, {state(3, 2, 5, 7, 6, 1), false}, {state(3, 2, 5, 6, 3, 1, 6, 1), false}, {state(3, 2, 5, 6, most, 1), false}, {state(3, 2, 5, 6, least, 1), false},
		// The order of the links, and their distances.
		{state(9, 9, 9, 10, 1, 5, 2, 5, 9, 5), true}, {state(9, 9, 9, 10, 1, 5, 1, 5, 9, 5), false}, {state(9, 9, 9, 10, 1, 5, 9, 5, 9, 5), false}, {state(9, 9, 9, 10, 2, 5, 1, 5, 9, 5), false}, {state(9, 9, 9, 10, 1, 5, 9, 5, 2, 5), false}, {state(9, 9, 9, 10, 9, 5, 9, 5), false}, {state(3, 9, 9, 10, 6, 5, 9, 5), false}, {state(3, 9, 9, 10, 5, 5, 9, 5), false}, {state(3, 9, 9, 10, 7, 5, 11, 5), false},
		// Next.
		{state(3, 2, 5, 6, 5, 1), true}, {state(3, 2, 5, 7, 5, 1), true}, {state(3, 2, 5, 8, 5, 1), true}, {state(3, 2, 5, 9, 5, 1), false}, {state(3, 2, 5, 5, 5, 1), false}, {state(3, 2, 5, 4, 5, 1), false}, {state(3, 2, 5, 0, 5, 1), false}, {state(3, 2, 5, -6, 5, 1), false}, {state(3, 2, 5, 7, 3, 1), false}, {state(3, 2, 5, 8, 3, 1, 4, 1), false}, {state(3, 2, 5, 7, 3, 1, 4, 1), true}, {state(longest, 2, total, total+longest, total, 1), true}, {state(longest, 2, total, total+longest+1, total, 1), false}, {state(longest, 2, total, most, total, 1), false}, {state(longest, 2, total, least, total, 1), false},
	} {
		if got := Validate(c.x); got != code(c.ok) || valid(c.x) != c.ok {
			t.Errorf("case %d: Validate(%v) = %d", i, c.x, got)
		}
	}
}

func TestValidStates(t *testing.T) {
	list := validStates()
	for _, x := range list {
		if got := Validate(x); got != api.OK || !valid(x) {
			t.Fatalf("Validate(%v) = %d, broken %v", x, got, broken(x))
		}
	}
	if len(list) < 4000 {
		t.Errorf("there are only %d states", len(list))
	}
}

// TestConditions checks the states that break one condition alone, and those that cannot but break two.
func TestConditions(t *testing.T) {
	all := oneBroken()
	for condition, states := range all {
		for _, x := range states {
			if got := Validate(x); got != api.ErrState || !slices.Equal(broken(x), []int{condition}) {
				t.Fatalf("Validate(%v) = %d, with %v broken, not %d alone", x, got, broken(x), condition)
			}
		}
	}
	for condition, n := range []int{1: 70, 2: 50, 3: 20, 4: 500, 5: 500, 6: 200, 7: 150, 8: 50, 9: 100, 11: 100, 12: 40, 13: 800, 14: 5000, 15: 5000} {
		if len(all[condition]) < n {
			t.Errorf("only %d states break condition %d", len(all[condition]), condition)
		}
	}
	for _, x := range twoBroken() {
		wrong := broken(x)
		if got := Validate(x); got != api.ErrState || !slices.Contains(wrong, 10) && !slices.Contains(wrong, 3) {
			t.Fatalf("Validate(%v) = %d, with %v broken", x, got, wrong)
		}
	}
}

// TestInvalidStates calls all functions with states that are not valid: with good arguments, and with such that would be errors themselves.
func TestInvalidStates(t *testing.T) {
	for i, x := range invalidStates() {
		if valid(x) {
			t.Fatalf("state %d is valid: %v", i, x)
		}
		if err := Validate(x); err != api.ErrState {
			t.Fatalf("Validate(%v) = %d", x, err)
		}
		if checkAsk(t, x) != api.ErrState {
			t.Fatalf("%v is not refused", x)
		}
		for _, v := range []int64{0, 5, highest, highest + 1, -highest - 1, least, most} {
			for _, draws := range [][]int64{nil, {0}, {0, 0}, {1, 0}, {0, 0, 0}, {-1}, {most, 0}} {
				for _, at := range []int{0, 1, 2, -1, math.MinInt, math.MaxInt} {
					if got, next, err := Add(x, v, draws, at); !same(got, api.Chain{}) || next != 0 || err != api.ErrState {
						t.Fatalf("Add(%v, %d, %v, %d) = %v, %d, %d", x, v, draws, at, got, next, err)
					}
					if m, ok := Needs(x, v, draws, at); m != 0 || ok {
						t.Fatalf("Needs(%v, %d, %v, %d) = %d, %t", x, v, draws, at, m, ok)
					}
				}
			}
		}
	}
}

// smallStates calls try with all states of these sizes and numbers, with up to 3 links.
func smallStates(try func(x api.Chain)) {
	var extend func(x api.Chain)
	extend = func(x api.Chain) {
		try(x)
		if len(x.Links) == 3 {
			return
		}
		for i := int64(-1); i <= 5; i++ {
			extend(with(x, x.Next, append(slices.Clone(x.Links), api.Link{I: i, V: 20 - 3*i})...))
		}
	}
	for w := int64(0); w <= 4; w++ {
		for n := 0; n <= 3; n++ {
			for i := int64(-1); i <= 4; i++ {
				for next := int64(-1); next <= 9; next++ {
					extend(state(w, n, i, next))
				}
			}
		}
	}
}

// smallDraws returns all lists of up to 3 draws, some of which are out of range.
func smallDraws() [][]int64 {
	list := [][]int64{nil}
	for n := 0; len(list[n]) < 3; n++ {
		for d := int64(-1); d <= 4; d++ {
			list = append(list, append(slices.Clone(list[n]), d))
		}
	}
	return list
}

func TestAllSmallStates(t *testing.T) {
	seen := map[api.Errno]int{}
	all := smallDraws()
	smallStates(func(x api.Chain) {
		why := code(valid(x))
		seen[why]++
		if err := Validate(x); err != why {
			t.Fatalf("Validate(%v) = %d, not %d", x, err, why)
		}
		if why != api.OK {
			return
		}
		seen[checkAsk(t, x)]++
		for _, draws := range all {
			for at := -1; at <= 4; at++ {
				seen[checkAdd(t, x, 7, draws, at)]++
			}
			seen[checkAdd(t, x, highest+1, draws, 0)]++
		}
	})
	enough(t, seen, 10, api.OK, api.ErrState, api.ErrRange, api.ErrArg, api.ErrDraw, api.ErrChain, api.ErrEmpty)
}
