package recent

import (
	"math"
	"math/big"
	"math/rand"
	"slices"
	"testing"

	"windowpane/api"
)

const (
	least   = math.MinInt64
	most    = math.MaxInt64
	last    = 1 << 24
	longest = 1 << 20
	fullest = 1 << 16
	high    = 4096
)

func it(t, v int64) api.Item { return api.Item{T: t, V: v} }

// state returns the state with these items.
func state(w int64, size int, now int64, items ...api.Item) api.Recent {
	return api.Recent{W: w, Cap: size, Now: now, Items: items}
}

// same reports whether two states are equal; a nil list and an empty one are equivalent.
func same(a, b api.Recent) bool {
	return a.W == b.W && a.Cap == b.Cap && a.Now == b.Now && slices.Equal(a.Items, b.Items)
}

func sameAnswer(a, b api.Answer) bool {
	return a.Bounds == b.Bounds && slices.Equal(a.Values, b.Values) && a.Fraction == b.Fraction
}

// copied returns the state with a list of its own.
func copied(x api.Recent) api.Recent {
	x.Items = slices.Clone(x.Items)
	return x
}

// inWindow, tick, window, size and value say which numbers are valid.
func inWindow(t, now, w int64) bool { return t >= 0 && now-w < t && t <= now }
func tick(n int64) bool             { return n > -1 && n < 16777217 }
func window(n int64) bool           { return n > 0 && n < 1048577 }
func size(n int) bool               { return n > 0 && n < 65537 }
func value(n int64) bool            { return n > -4097 && n < 4097 }

// valid says which states are valid, item by item.
func valid(x api.Recent) bool {
	if !window(x.W) || !size(x.Cap) || !tick(x.Now) || len(x.Items) > x.Cap {
		return false
	}
	for i, item := range x.Items {
		if !inWindow(item.T, x.Now, x.W) || !value(item.V) || i > 0 && x.Items[i-1].T > item.T {
			return false
		}
	}
	return true
}

// code returns the error that stands for an invalid state, if it is one.
func code(ok bool) api.Errno {
	if ok {
		return api.OK
	}
	return api.ErrState
}

// edges returns the numbers around all limits.
func edges() []int64 {
	var list []int64
	for d := int64(-2); d <= 2; d++ {
		list = append(list, d, high+d, -high+d, fullest+d, longest+d, last-longest+d, last+d, 1<<32+d, math.MaxInt32+d, math.MinInt32+d)
	}
	for d := range int64(3) {
		list = append(list, least+d, most-d, least+longest+d, most-longest-d)
	}
	return list
}

// queries returns questions of all kinds, with answers and without.
func queries() []api.Query {
	var list []api.Query
	for op := -1; op <= 12; op++ {
		for _, n := range [][2]int64{{0, 0}, {0, 1}, {1, 2}, {2, 1}, {-1, 1}, {1, -1}, {most, most}, {least, 1}} {
			list = append(list, api.Query{Op: op, A: n[0], B: n[1]})
		}
	}
	return list
}

func TestNew(t *testing.T) {
	sizes := []int{least, least + 1, -fullest, -1, 0, 1, 2, 3, fullest - 1, fullest, fullest + 1, fullest * 2, math.MaxInt32, 1<<32 + 1, most}
	seen := map[api.Errno]int{}
	for _, w := range append(edges(), 5) {
		for _, now := range append(edges(), 7) {
			for _, n := range sizes {
				want, why := state(w, n, now), api.OK
				if !window(w) || !size(n) || !tick(now) {
					want, why = api.Recent{}, api.ErrArg
				}
				seen[why]++
				got, err := New(w, n, now)
				if !same(got, want) || err != why {
					t.Errorf("New(%d, %d, %d) = %v, %d", w, n, now, got, err)
				}
				if err == api.OK && Validate(got) != api.OK {
					t.Errorf("New(%d, %d, %d) is not valid", w, n, now)
				}
			}
		}
	}
	if seen[api.OK] < 100 || seen[api.ErrArg] < 1000 {
		t.Errorf("the results are too much alike: %v", seen)
	}
}

// full returns a list of n items with the values v, -v, v, ..
func full(n int, at, v int64) []api.Item {
	list := make([]api.Item, n)
	for i := range list {
		list[i] = it(at, v)
		v = -v
	}
	return list
}

// spoilt returns a long list with one item that is not like the others.
func spoilt(i int, x api.Item) []api.Item {
	list := full(fullest, 5, 3)
	list[i] = x
	return list
}

// validStates returns states at the limits.
func validStates() []api.Recent {
	return []api.Recent{
		state(3, 2, 5), state(3, 2, 5, it(5, 1)), state(3, 2, 5, it(3, -high), it(5, high)), {W: 1, Cap: 1, Items: []api.Item{}},
		// A window of 1 and the longest one, with the first and the last tick.
		state(1, 1, 0, it(0, 0)), state(1, 2, 4, it(4, 1), it(4, 2)), state(1, 1, last, it(last, 1)), state(longest, 2, 0, it(0, 1), it(0, 2)), state(longest, 3, last, it(last-longest+1, 1), it(last-1, 5), it(last, 2)), state(longest, 2, longest-1, it(0, 1), it(longest-1, 4)), state(longest, 1, longest, it(1, 1)),
		// Equal ticks that repeat; the item of the window's first tick.
		state(3, 6, 5, it(3, 1), it(3, 1), it(4, 2), it(5, 9), it(5, -9), it(5, 0)), state(3, 4, 5, it(3, 1), it(3, 2), it(3, 3), it(3, 4)), state(4, 1, 2, it(0, 1)),
		// The greatest capacity, empty, with one item and full.
		state(1, fullest, 0), state(2, fullest, 9, it(8, 4)), state(2, fullest, 9, full(fullest, 8, high)...), state(longest, fullest, last, full(fullest, last, high)...), state(3, 1, 7, it(6, -high)),
	}
}

// invalidStates returns states that violate one condition each.
func invalidStates() []api.Recent {
	return []api.Recent{
		{}, {W: 3}, {Cap: 2}, {W: 3, Now: 5}, {Cap: 2, Now: 5},
		// W, Cap or Now is wrong.
		state(0, 2, 5), state(-1, 2, 5), state(least, 2, 5), state(longest+1, 2, 5), state(last, 2, 5), state(most, 2, 5), state(3, 0, 5), state(3, -1, 5), state(3, math.MinInt, 5), state(3, fullest+1, 5), state(3, 1<<32+1, 5), state(3, math.MaxInt, 5), state(3, 2, -1), state(3, 2, least), state(3, 2, last+1), state(3, 2, most),
		state(0, 2, 5, it(5, 1)), state(longest+1, 2, 5, it(5, 1)), state(3, fullest+1, 5, it(5, 1)), state(3, 2, -1, it(-1, 1)), state(3, 2, last+1, it(last+1, 1)), state(3, 2, last+1, it(last, 1)),
		// There are more than Cap items.
		state(3, 1, 5, it(5, 1), it(5, 1)), state(3, 2, 5, it(3, 1), it(4, 1), it(5, 1)), state(3, 0, 5, it(5, 1)), state(3, -1, 5, it(5, 1)), state(3, fullest-1, 5, full(fullest, 5, 1)...), state(3, fullest, 5, full(fullest+1, 5, 1)...), state(3, fullest+1, 5, full(fullest+1, 5, 1)...),
		// Ticks descend.
		state(3, 9, 5, it(5, 1), it(4, 1)), state(3, 9, 5, it(4, 1), it(3, 1), it(5, 1)), state(3, 9, 5, it(3, 1), it(5, 1), it(4, 1)), state(3, fullest, 5, spoilt(fullest-1, it(4, 3))...), state(3, fullest, 5, spoilt(fullest/2, it(4, 3))...),
		// Ticks are negative.
		state(3, 9, 0, it(-1, 1)), state(3, 9, 1, it(-1, 1), it(0, 1)), state(longest, 9, 5, it(-1, 1)), state(longest, 9, 5, it(0, 1), it(-1, 1)), state(3, 9, 5, it(least, 1)), state(longest, 9, last, it(least, 1), it(last, 1)),
		// Ticks are later than Now.
		state(3, 9, 5, it(6, 1)), state(3, 9, 5, it(5, 1), it(6, 1)), state(3, 9, 0, it(1, 1)), state(longest, 9, last, it(last+1, 1)), state(3, 9, last-1, it(last, 1)), state(3, 9, 5, it(most, 1)), state(3, fullest, 5, spoilt(fullest-1, it(6, 3))...),
		// Items are not live any more.
		state(3, 9, 5, it(2, 1)), state(3, 9, 5, it(0, 1)), state(3, 9, 5, it(2, 1), it(3, 1)), state(3, 9, 5, it(2, 1), it(5, 1)), state(3, 9, 5, it(2, 1), it(2, 2), it(5, 1)), state(1, 9, 5, it(4, 1)), state(1, 9, 5, it(4, 1), it(5, 1)), state(longest, 9, longest, it(0, 1)), state(longest, 9, last, it(last-longest, 1)), state(longest, 9, last, it(0, 1), it(last, 1)), state(3, fullest, 5, spoilt(0, it(2, 3))...),
		// A value is out of range.
		state(3, 9, 5, it(5, high+1)), state(3, 9, 5, it(5, -high-1)), state(3, 9, 5, it(5, most)), state(3, 9, 5, it(5, least)), state(3, 9, 5, it(5, 1<<32)), state(3, 9, 5, it(3, high+1), it(4, 0), it(5, 0)), state(3, 9, 5, it(3, 0), it(4, -high-1), it(5, 0)), state(3, 9, 5, it(3, 0), it(4, 0), it(5, high+1)), state(3, fullest, 5, spoilt(0, it(5, high+1))...), state(3, fullest, 5, spoilt(fullest-1, it(5, -high-1))...),
	}
}

func TestValidate(t *testing.T) {
	for i, x := range validStates() {
		if err := Validate(x); err != api.OK {
			t.Errorf("valid state %d: Validate = %d", i, err)
		}
	}
	for i, x := range invalidStates() {
		if err := Validate(x); err != api.ErrState {
			t.Errorf("invalid state %d: Validate = %d", i, err)
		}
	}
}

// TestStateFirst checks that an invalid state is answered with ErrState, whatever the other arguments are.
func TestStateFirst(t *testing.T) {
	for i, x := range invalidStates() {
		for _, n := range []int64{x.Now, x.Now - 1, 0, 5, 6, last, last + 1, -1, least, most, high, high + 1, -high - 1} {
			if got, err := Advance(x, n); err != api.ErrState || !same(got, api.Recent{}) {
				t.Errorf("invalid state %d: Advance to %d = %v, %d", i, n, got, err)
			}
			if got, err := Add(x, n); err != api.ErrState || !same(got, api.Recent{}) {
				t.Errorf("invalid state %d: Add of %d = %v, %d", i, n, got, err)
			}
		}
		if len(x.Items) > 100 {
			continue
		}
		for _, q := range queries() {
			if got, err := Ask(x, q); err != api.ErrState || !sameAnswer(got, api.Answer{}) {
				t.Errorf("invalid state %d: Ask(%v) = %v, %d", i, q, got, err)
			}
		}
	}
}

// smallStates calls try with all states of these sizes and ticks, with up to 3 items.
func smallStates(try func(x api.Recent)) {
	var extend func(x api.Recent)
	extend = func(x api.Recent) {
		try(x)
		if len(x.Items) == 3 {
			return
		}
		for t := int64(-1); t <= 4; t++ {
			y := copied(x)
			y.Items = append(y.Items, it(t, int64(len(x.Items))-1))
			extend(y)
		}
	}
	for w := int64(-1); w <= 5; w++ {
		for n := -1; n <= 4; n++ {
			for now := int64(-1); now <= 4; now++ {
				extend(state(w, n, now))
			}
		}
	}
}

func TestAllSmallStates(t *testing.T) {
	seen := map[api.Errno]int{}
	smallStates(func(x api.Recent) {
		why := code(valid(x))
		seen[why]++
		if err := Validate(x); err != why {
			t.Fatalf("Validate(%v) = %d", x, err)
		}
		for now := int64(-1); now <= 7; now++ {
			checkAdvance(t, x, now)
		}
		checkAdd(t, x, 8)
		if a, err := Ask(x, api.Query{Op: api.AskCount}); err != why || err == api.OK && a.Bounds != integers(len(x.Items)) {
			t.Fatalf("AskCount of %v is %v, %d", x, a, err)
		}
	})
	if seen[api.OK] < 500 || seen[api.ErrState] < 5000 {
		t.Errorf("the results are too much alike: %v", seen)
	}
}

// checkAdvance compares Advance with what the chapter says.
func checkAdvance(t *testing.T, x api.Recent, now int64) {
	t.Helper()
	want, why := state(x.W, x.Cap, now), code(valid(x))
	if why == api.OK && (now < x.Now || now > last) {
		why = api.ErrTime
	}
	for _, item := range x.Items {
		if inWindow(item.T, now, x.W) {
			want.Items = append(want.Items, item)
		}
	}
	if why != api.OK {
		want = api.Recent{}
	}
	if got, err := Advance(x, now); !same(got, want) || err != why {
		t.Fatalf("Advance(%v, %d) = %v, %d, not %v, %d", x, now, got, err, want, why)
	}
}

// checkAdd compares Add with what the chapter says.
func checkAdd(t *testing.T, x api.Recent, v int64) {
	t.Helper()
	want, why := copied(x), code(valid(x))
	if why == api.OK && len(x.Items) == x.Cap {
		why = api.ErrFull
	}
	if why != api.ErrState && !value(v) {
		why = api.ErrRange
	}
	want.Items = append(want.Items, it(x.Now, v))
	if why != api.OK {
		want = api.Recent{}
	}
	if got, err := Add(x, v); !same(got, want) || err != why {
		t.Fatalf("Add(%v, %d) = %v, %d, not %v, %d", x, v, got, err, want, why)
	}
}

func TestValidateAroundTheLimits(t *testing.T) {
	for _, w := range edges() {
		for _, now := range edges() {
			for _, n := range edges() {
				x := state(w, 3, now, it(n, 1))
				if err := Validate(x); err != code(valid(x)) {
					t.Errorf("Validate(%v) = %d", x, err)
				}
			}
		}
	}
	for _, v := range edges() {
		x := state(3, 3, 5, it(4, 0), it(5, v))
		if err := Validate(x); err != code(value(v)) {
			t.Errorf("Validate(%v) = %d", x, err)
		}
	}
}

func TestAdvance(t *testing.T) {
	x := state(3, 9, 5, it(3, 30), it(3, 31), it(4, 40), it(5, 50), it(5, 51))
	for _, c := range []struct {
		x    api.Recent
		now  int64
		from int // the first item that stays
	}{
		{x, 5, 0}, {x, 6, 2}, {x, 7, 3}, {x, 8, 5}, {x, 9, 5}, {x, last, 5}, {state(3, 1, 0), 0, 0}, {state(3, 1, 0), last, 0}, {state(3, 1, last), last, 0},
		// An item is live for the last tick, and has just left.
		{state(3, 1, 5, it(5, 1)), 7, 0}, {state(3, 1, 5, it(5, 1)), 8, 1}, {state(3, 1, 0, it(0, 1)), 2, 0}, {state(3, 1, 0, it(0, 1)), 3, 1}, {state(3, 1, 5, it(3, 1)), 5, 0}, {state(3, 1, 5, it(3, 1)), 6, 1},
		// A window of 1, and the longest one, with the first and the last tick.
		{state(1, 2, 5, it(5, 1), it(5, 2)), 5, 0}, {state(1, 2, 5, it(5, 1), it(5, 2)), 6, 2}, {state(1, 1, last-1, it(last-1, 1)), last, 1}, {state(longest, 2, 0, it(0, 1), it(0, 2)), longest - 1, 0}, {state(longest, 2, 0, it(0, 1), it(0, 2)), longest, 2}, {state(longest, 2, 1, it(0, 1), it(1, 2)), longest, 1}, {state(longest, 2, last-longest+1, it(last-longest, 1), it(last-longest+1, 2)), last, 1}, {state(longest, 1, 0, it(0, 1)), last, 1}, {state(1, 1, last, it(last, 1)), last, 0},
		// A full list of the greatest capacity.
		{state(2, fullest, 9, full(fullest, 8, high)...), 9, 0}, {state(2, fullest, 9, full(fullest, 8, high)...), 10, fullest}, {state(2, fullest, 8, full(fullest, 8, high)...), 9, 0},
	} {
		want := state(c.x.W, c.x.Cap, c.now, c.x.Items[c.from:]...)
		if got, err := Advance(c.x, c.now); err != api.OK || !same(got, want) {
			t.Errorf("Advance of the window %d from %d to %d = %d items, %d", c.x.W, c.x.Now, c.now, len(got.Items), err)
		}
	}
}

func TestAdvanceErrors(t *testing.T) {
	for _, x := range []api.Recent{state(3, 2, 5), state(3, 2, 5, it(4, 1), it(5, 1)), state(longest, 2, 5, it(0, 1)), state(1, 1, 0, it(0, 1)), state(3, 2, last), state(1, 1, last, it(last, 1))} {
		for _, now := range edges() {
			checkAdvance(t, x, now)
		}
		for _, now := range []int64{x.Now - 1, -1, least, last + 1, most, 1<<32 + x.Now} {
			if got, err := Advance(x, now); err != api.ErrTime || !same(got, api.Recent{}) {
				t.Errorf("Advance(%v, %d) = %v, %d", x, now, got, err)
			}
		}
	}
}

func TestAdd(t *testing.T) {
	few := state(3, 3, 5, it(3, 1), it(5, 2))
	for _, x := range []api.Recent{few, state(3, 2, 5), state(1, 1, 0), state(longest, fullest, last), {W: 3, Cap: 2, Now: 5, Items: []api.Item{}}} {
		for _, v := range []int64{0, 1, -1, 7, high - 1, high, -high + 1, -high} {
			want := append(slices.Clone(x.Items), it(x.Now, v))
			if got, err := Add(x, v); err != api.OK || !same(got, state(x.W, x.Cap, x.Now, want...)) {
				t.Errorf("Add(%v, %d) = %v, %d", x, v, got, err)
			}
		}
	}
}

func TestAddErrors(t *testing.T) {
	few := state(3, 3, 5, it(3, 1), it(5, 2))
	fullLists := []api.Recent{state(3, 2, 5, it(3, 1), it(5, 2)), state(1, 1, 0, it(0, 0)), state(longest, 1, last, it(last-longest+1, 1)), state(3, 1, 5, it(3, 1))}
	for _, v := range append(edges(), 0, 7, -7) {
		checkAdd(t, few, v)
		for _, x := range fullLists {
			checkAdd(t, x, v)
		}
	}
	for _, v := range []int64{high + 1, -high - 1, 1 << 32, least, most} {
		// Even where there is no room.
		for _, x := range append(fullLists, few, state(3, 2, 5)) {
			if got, err := Add(x, v); err != api.ErrRange || !same(got, api.Recent{}) {
				t.Errorf("Add(%v, %d) = %v, %d", x, v, got, err)
			}
		}
	}
	for _, x := range fullLists {
		if got, err := Add(x, high); err != api.ErrFull || !same(got, api.Recent{}) {
			t.Errorf("Add(%v, %d) = %v, %d", x, high, got, err)
		}
	}
}

func TestAddToTheGreatestCapacity(t *testing.T) {
	list := full(fullest-1, 8, high)
	x, err := Add(state(2, fullest, 9, list...), -7)
	if want := state(2, fullest, 9, append(list, it(9, -7))...); err != api.OK || !same(x, want) {
		t.Fatalf("Add to all but one item has %d items, %d", len(x.Items), err)
	}
	if _, err := Add(x, -7); err != api.ErrFull {
		t.Errorf("Add behind the last item = %d", err)
	}
	if _, err := Add(x, high+1); err != api.ErrRange {
		t.Errorf("Add of a great value behind the last item = %d", err)
	}
	// One tick later, there is room for all but the last item.
	x, err = Advance(x, 10)
	if err != api.OK || !same(x, state(2, fullest, 10, it(9, -7))) {
		t.Fatalf("Advance = %v, %d", x, err)
	}
	if x, err = Add(x, 4); err != api.OK || !same(x, state(2, fullest, 10, it(9, -7), it(10, 4))) {
		t.Errorf("Add behind Advance = %v, %d", x, err)
	}
}

// integers returns the answer that is a single integer.
func integers(n int) api.Bounds { return fraction(int64(n), 1) }

func fraction(n, d int64) api.Bounds {
	r := api.Ratio{Num: n, Den: d}
	return api.Bounds{Lo: r, Est: r, Hi: r}
}

func TestExample(t *testing.T) {
	x, err := New(3, 2, 0)
	step := func(name string, y api.Recent, got, why api.Errno, want api.Recent) {
		t.Helper()
		if got != why || !same(y, want) {
			t.Fatalf("%s = %v, %d", name, y, got)
		}
	}
	step("New", x, err, api.OK, state(3, 2, 0))
	x, err = Add(x, 5)
	step("Add 5", x, err, api.OK, state(3, 2, 0, it(0, 5)))
	x, err = Advance(x, 2)
	step("Advance to 2", x, err, api.OK, state(3, 2, 2, it(0, 5)))
	x, err = Add(x, 7)
	step("Add 7", x, err, api.OK, state(3, 2, 2, it(0, 5), it(2, 7)))
	y, err := Add(x, 1)
	step("Add 1", y, err, api.ErrFull, api.Recent{})
	y, err = Add(x, high+1)
	step("Add 4097", y, err, api.ErrRange, api.Recent{})
	y, err = Advance(x, 1)
	step("Advance to 1", y, err, api.ErrTime, api.Recent{})
	x, err = Advance(x, 3)
	step("Advance to 3", x, err, api.OK, state(3, 2, 3, it(2, 7)))
	if a, err := Ask(x, api.Query{Op: api.AskSum}); err != api.OK || !sameAnswer(a, api.Answer{Bounds: integers(7)}) {
		t.Errorf("AskSum = %v, %d", a, err)
	}
	x, err = Add(x, 1)
	step("Add 1 behind Advance", x, err, api.OK, state(3, 2, 3, it(2, 7), it(3, 1)))
}

// at returns the state that has these values, at ticks that ascend.
func at(values ...int64) api.Recent {
	x := state(10, len(values)+1, 14)
	for i, v := range values {
		x.Items = append(x.Items, it(5+int64(10*i/len(values)), v))
	}
	return x
}

func TestAskNumbers(t *testing.T) {
	one, several := at(-7), at(4, -2, 10, 4)
	for _, c := range []struct {
		x    api.Recent
		op   int
		a    int64
		want api.Bounds
	}{
		{at(), api.AskCount, 0, integers(0)}, {one, api.AskCount, 0, integers(1)}, {several, api.AskCount, 0, integers(4)},
		{at(), api.AskSum, 0, integers(0)}, {one, api.AskSum, 0, integers(-7)}, {several, api.AskSum, 0, integers(16)}, {at(3, -3), api.AskSum, 0, integers(0)}, {at(-high, -high), api.AskSum, 0, integers(-8192)}, {at(high), api.AskSum, 0, integers(4096)},
		{at(), api.AskSquares, 0, integers(0)}, {one, api.AskSquares, 0, integers(49)}, {several, api.AskSquares, 0, integers(136)}, {at(-high, high), api.AskSquares, 0, integers(1 << 25)},
		{at(), api.AskRange, 0, integers(0)}, {one, api.AskRange, 0, integers(0)}, {several, api.AskRange, 0, integers(12)}, {at(5, 5), api.AskRange, 0, integers(0)}, {at(-3, -8), api.AskRange, 0, integers(5)}, {at(9, 2), api.AskRange, 0, integers(7)}, {at(high, -high), api.AskRange, 0, integers(8192)},
		{at(), api.AskSpread, 0, integers(0)}, {one, api.AskSpread, 0, integers(0)}, {several, api.AskSpread, 0, integers(72)}, {at(5, 5, 5), api.AskSpread, 0, integers(0)}, {at(0, 1), api.AskSpread, 0, fraction(1, 2)}, {at(0, 0, 1), api.AskSpread, 0, fraction(2, 3)}, {at(-high, high), api.AskSpread, 0, integers(1 << 25)},
		{at(), api.AskRank, 0, integers(0)}, {at(), api.AskRank, most, integers(0)}, {one, api.AskRank, -8, integers(0)}, {one, api.AskRank, -7, integers(1)}, {one, api.AskRank, -6, integers(1)}, {several, api.AskRank, -3, integers(0)}, {several, api.AskRank, -2, integers(1)}, {several, api.AskRank, 3, integers(1)}, {several, api.AskRank, 4, integers(3)}, {several, api.AskRank, 9, integers(3)}, {several, api.AskRank, 10, integers(4)}, {several, api.AskRank, 11, integers(4)}, {several, api.AskRank, least, integers(0)}, {several, api.AskRank, most, integers(4)}, {at(-high, high), api.AskRank, -high, integers(1)}, {at(-high, high), api.AskRank, -high - 1, integers(0)}, {at(-high, high), api.AskRank, high, integers(2)}, {at(-high, high), api.AskRank, high + 1, integers(2)},
	} {
		// B has no meaning in these questions, and A only in that of a rank.
		for _, b := range []int64{0, 1, -1, least, most} {
			q := api.Query{Op: c.op, A: c.a, B: b}
			if c.op != api.AskRank {
				q.A = -b / 2
			}
			if got, err := Ask(c.x, q); err != api.OK || !sameAnswer(got, api.Answer{Bounds: c.want}) {
				t.Errorf("Ask(%v, %v) = %v, %d, not %v", c.x, q, got, err, c.want)
			}
		}
	}
}

func TestAskOfTheGreatestLists(t *testing.T) {
	top, bottom := make([]api.Item, fullest), make([]api.Item, fullest)
	for i := range top {
		top[i], bottom[i] = it(0, high), it(0, -high)
	}
	both, odd := full(fullest, 0, high), full(fullest-1, 0, high)
	for _, c := range []struct {
		name  string
		items []api.Item
		op    int
		a     int64
		want  api.Bounds
	}{
		{"top", top, api.AskCount, 0, integers(65536)}, {"top", top, api.AskSum, 0, integers(268435456)}, {"bottom", bottom, api.AskSum, 0, integers(-268435456)}, {"both", both, api.AskSum, 0, integers(0)}, {"odd", odd, api.AskSum, 0, integers(4096)},
		{"top", top, api.AskSquares, 0, integers(1 << 40)}, {"bottom", bottom, api.AskSquares, 0, integers(1 << 40)}, {"both", both, api.AskSquares, 0, integers(1 << 40)},
		{"top", top, api.AskRange, 0, integers(0)}, {"both", both, api.AskRange, 0, integers(8192)},
		// The greatest spread, and that with the greatest numerator: 2^24 (65535^2 - 1) / 65535.
		{"top", top, api.AskSpread, 0, integers(0)}, {"both", both, api.AskSpread, 0, integers(1 << 40)}, {"odd", odd, api.AskSpread, 0, fraction(1<<24*(65535*65535-1), 65535)},
		{"both", both, api.AskRank, 0, integers(32768)}, {"odd", odd, api.AskRank, 0, integers(32767)}, {"both", both, api.AskRank, high, integers(65536)}, {"top", top, api.AskRank, high - 1, integers(0)},
	} {
		if got, err := Ask(state(1, fullest, 0, c.items...), api.Query{Op: c.op, A: c.a}); err != api.OK || !sameAnswer(got, api.Answer{Bounds: c.want}) {
			t.Errorf("question %d of the list %s: %v, %d, not %v", c.op, c.name, got, err, c.want)
		}
	}
	x := state(1, fullest, 0, both...)
	for _, c := range []struct {
		q    api.Query
		want []int64
	}{
		{api.Query{Op: api.AskExtreme}, []int64{-high, high}}, {api.Query{Op: api.AskQuantile, A: 1, B: 2}, []int64{-high}}, {api.Query{Op: api.AskQuantile, A: 1<<62 + 1, B: most}, []int64{high}}, {api.Query{Op: api.AskQuantile, A: 32769, B: 65536}, []int64{high}}, {api.Query{Op: api.AskQuantile, A: most, B: most}, []int64{high}}, {api.Query{Op: api.AskQuantile, A: 0, B: most}, []int64{-high}},
	} {
		if got, err := Ask(x, c.q); err != api.OK || !sameAnswer(got, api.Answer{Values: c.want}) {
			t.Errorf("Ask(%v) = %v, %d, not %v", c.q, got, err, c.want)
		}
	}
}

func TestAskValues(t *testing.T) {
	one, several := at(-7), at(50, 10, 40, 20, 30)
	for _, c := range []struct {
		x        api.Recent
		op       int
		a, b     int64
		want     []int64
		why      api.Errno
		anyAandB bool
	}{
		{at(), api.AskExtreme, 0, 0, nil, api.ErrEmpty, true}, {one, api.AskExtreme, 0, 0, []int64{-7, -7}, api.OK, true}, {several, api.AskExtreme, 0, 0, []int64{10, 50}, api.OK, true}, {at(high, 0, -high), api.AskExtreme, 0, 0, []int64{-high, high}, api.OK, true}, {at(0), api.AskExtreme, 0, 0, []int64{0, 0}, api.OK, true}, {at(3, 3), api.AskExtreme, 0, 0, []int64{3, 3}, api.OK, true},
		// A is 0, or equal to B.
		{one, api.AskQuantile, 0, 1, []int64{-7}, api.OK, false}, {one, api.AskQuantile, 1, 1, []int64{-7}, api.OK, false}, {several, api.AskQuantile, 0, 1, []int64{10}, api.OK, false}, {several, api.AskQuantile, 0, most, []int64{10}, api.OK, false}, {several, api.AskQuantile, 1, 1, []int64{50}, api.OK, false}, {several, api.AskQuantile, most, most, []int64{50}, api.OK, false}, {at(high, -high), api.AskQuantile, 0, 9, []int64{-high}, api.OK, false}, {at(high, -high), api.AskQuantile, 9, 9, []int64{high}, api.OK, false},
		// In between, and with great numbers.
		{several, api.AskQuantile, 1, 2, []int64{30}, api.OK, false}, {several, api.AskQuantile, 1, 5, []int64{10}, api.OK, false}, {several, api.AskQuantile, 21, 100, []int64{20}, api.OK, false}, {several, api.AskQuantile, 79, 100, []int64{40}, api.OK, false}, {several, api.AskQuantile, 1, most, []int64{10}, api.OK, false}, {several, api.AskQuantile, most / 5, most, []int64{10}, api.OK, false}, {several, api.AskQuantile, most/5 + 1, most, []int64{20}, api.OK, false}, {several, api.AskQuantile, most - 1, most, []int64{50}, api.OK, false}, {at(0), api.AskQuantile, 1, 2, []int64{0}, api.OK, false},
		// The empty list.
		{at(), api.AskQuantile, 1, 2, nil, api.ErrEmpty, false}, {at(), api.AskQuantile, 0, 1, nil, api.ErrEmpty, false}, {at(), api.AskQuantile, most, most, nil, api.ErrEmpty, false},
		// B is less than 1, or A is not from 0 to B.
		{several, api.AskQuantile, 0, 0, nil, api.ErrArg, false}, {several, api.AskQuantile, 1, 0, nil, api.ErrArg, false}, {several, api.AskQuantile, 0, -1, nil, api.ErrArg, false}, {several, api.AskQuantile, -1, -1, nil, api.ErrArg, false}, {several, api.AskQuantile, -2, -1, nil, api.ErrArg, false}, {several, api.AskQuantile, least, least, nil, api.ErrArg, false}, {several, api.AskQuantile, 0, least, nil, api.ErrArg, false}, {several, api.AskQuantile, -1, 1, nil, api.ErrArg, false}, {several, api.AskQuantile, least, most, nil, api.ErrArg, false}, {several, api.AskQuantile, 2, 1, nil, api.ErrArg, false}, {several, api.AskQuantile, most, most - 1, nil, api.ErrArg, false}, {one, api.AskQuantile, 0, 0, nil, api.ErrArg, false},
		// Also of the empty list.
		{at(), api.AskQuantile, 0, 0, nil, api.ErrArg, false}, {at(), api.AskQuantile, 3, 2, nil, api.ErrArg, false}, {at(), api.AskQuantile, -1, 2, nil, api.ErrArg, false}, {at(), api.AskQuantile, 0, -1, nil, api.ErrArg, false}, {at(), api.AskQuantile, least, least, nil, api.ErrArg, false}, {at(), api.AskQuantile, most, 1, nil, api.ErrArg, false},
	} {
		list := []api.Query{{Op: c.op, A: c.a, B: c.b}}
		if c.anyAandB {
			list = append(list, api.Query{Op: c.op, A: 3, B: 2}, api.Query{Op: c.op, A: least, B: -1}, api.Query{Op: c.op, A: most, B: most})
		}
		for _, q := range list {
			if got, err := Ask(c.x, q); err != c.why || !sameAnswer(got, api.Answer{Values: c.want}) {
				t.Errorf("Ask(%v, %v) = %v, %d, not %v, %d", c.x, q, got, err, c.want, c.why)
			}
		}
	}
}

func TestAskOtherKinds(t *testing.T) {
	for _, x := range []api.Recent{at(), at(-7), at(4, -2, 10, 4)} {
		for _, op := range []int{api.AskDecay, api.AskSample, 0, -1, 11, 12, 1<<32 + 1, 1<<8 + 1, math.MaxInt, math.MinInt, math.MinInt + 1} {
			for _, n := range [][2]int64{{0, 0}, {1, 2}, {2, 1}, {least, most}} {
				q := api.Query{Op: op, A: n[0], B: n[1]}
				if got, err := Ask(x, q); err != api.ErrKind || !sameAnswer(got, api.Answer{}) {
					t.Errorf("Ask(%v, %v) = %v, %d", x, q, got, err)
				}
			}
		}
	}
}

// expected answers a question by sorting the values and with exact numbers.
func expected(items []api.Item, q api.Query) (api.Answer, api.Errno) {
	var sorted []int64
	for _, x := range items {
		sorted = append(sorted, x.V)
	}
	slices.Sort(sorted)
	n := len(sorted)
	switch {
	case q.Op == api.AskQuantile && (q.B < 1 || q.A < 0 || q.A > q.B):
		return api.Answer{}, api.ErrArg
	case n == 0 && (q.Op == api.AskQuantile || q.Op == api.AskExtreme):
		return api.Answer{}, api.ErrEmpty
	case q.Op == api.AskExtreme:
		return api.Answer{Values: []int64{sorted[0], sorted[n-1]}}, api.OK
	case q.Op == api.AskQuantile:
		// The least rank from 1 on whose product with B is not less than A n.
		rank := int64(1)
		for new(big.Int).Mul(big.NewInt(rank), big.NewInt(q.B)).Cmp(new(big.Int).Mul(big.NewInt(q.A), big.NewInt(int64(n)))) < 0 {
			rank++
		}
		return api.Answer{Values: []int64{sorted[rank-1]}}, api.OK
	}
	number, ok := aggregate(sorted, q)
	if !ok {
		return api.Answer{}, api.ErrKind
	}
	return api.Answer{Bounds: fraction(number.Num().Int64(), number.Denom().Int64())}, api.OK
}

// aggregate returns the number that answers a question; false reports that there is none.
func aggregate(sorted []int64, q api.Query) (*big.Rat, bool) {
	rank, sum, squares := int64(0), int64(0), int64(0)
	for _, v := range sorted {
		if v <= q.A {
			rank++
		}
		sum += v
		squares += v * v
	}
	switch q.Op {
	case api.AskCount:
		return big.NewRat(int64(len(sorted)), 1), true
	case api.AskSum:
		return big.NewRat(sum, 1), true
	case api.AskSquares:
		return big.NewRat(squares, 1), true
	case api.AskRank:
		return big.NewRat(rank, 1), true
	case api.AskRange, api.AskSpread:
		if len(sorted) == 0 {
			return new(big.Rat), true
		}
		if q.Op == api.AskRange {
			return big.NewRat(sorted[len(sorted)-1]-sorted[0], 1), true
		}
		return deviations(sorted, big.NewRat(sum, int64(len(sorted)))), true
	}
	return nil, false
}

// deviations returns the sum of the squared deviations from the mean.
func deviations(values []int64, mean *big.Rat) *big.Rat {
	sum := new(big.Rat)
	for _, v := range values {
		d := new(big.Rat).Sub(big.NewRat(v, 1), mean)
		sum.Add(sum, d.Mul(d, d))
	}
	return sum
}

// randomValue returns a value of any size; one in eight is out of range.
func randomValue(source *rand.Rand) int64 {
	switch source.Intn(8) {
	case 0:
		return []int64{high + 1, -high - 1, least, most, 1 << 32}[source.Intn(5)]
	case 1:
		return []int64{high, -high}[source.Intn(2)]
	}
	return source.Int63n(int64(2)<<source.Intn(12)) - source.Int63n(int64(2)<<source.Intn(12))
}

func randomQuery(source *rand.Rand) api.Query {
	q := api.Query{Op: source.Intn(12), A: source.Int63n(41) - 20, B: source.Int63n(10)}
	if q.Op == api.AskQuantile && source.Intn(4) != 0 {
		q.B = 1 + int64(source.Uint64()>>1)>>(1+source.Intn(62))
		q.A = source.Int63n(q.B + 1)
	}
	return q
}

// TestStreams compares states with the list of all items that were accepted, of which those in the window are kept.
func TestStreams(t *testing.T) {
	source := rand.New(rand.NewSource(9))
	seen := map[api.Errno]int{}
	for range 300 {
		w, n := 1+source.Int63n(20), 1+source.Intn(20)
		now := []int64{0, 5, last - 60, last - 10, longest}[source.Intn(5)]
		x, err := New(w, n, now)
		if err != api.OK {
			t.Fatalf("New(%d, %d, %d) = %d", w, n, now, err)
		}
		var all []api.Item
		for range 80 {
			before := copied(x)
			var live []api.Item
			for _, item := range all {
				if inWindow(item.T, now, w) {
					live = append(live, item)
				}
			}
			if want := state(w, n, now, live...); !same(x, want) || Validate(x) != api.OK {
				t.Fatalf("the state is %v, not %v", x, want)
			}
			switch source.Intn(4) {
			case 0:
				to := now + source.Int63n(6) - 1
				checkAdvance(t, x, to)
				y, err := Advance(x, to)
				seen[err]++
				if err == api.OK {
					x, now = y, to
				}
			case 1, 2:
				v := randomValue(source)
				checkAdd(t, x, v)
				y, err := Add(x, v)
				seen[err]++
				if err == api.OK {
					x, all = y, append(all, it(now, v))
				}
			case 3:
				q := randomQuery(source)
				want, why := expected(live, q)
				seen[why]++
				if got, err := Ask(x, q); err != why || !sameAnswer(got, want) {
					t.Fatalf("Ask(%v, %v) = %v, %d, not %v, %d", x, q, got, err, want, why)
				}
				if !same(x, before) {
					t.Fatalf("Ask(%v) changed %v to %v", q, before, x)
				}
			}
		}
	}
	for _, err := range []api.Errno{api.OK, api.ErrTime, api.ErrRange, api.ErrFull, api.ErrKind, api.ErrArg, api.ErrEmpty} {
		if seen[err] < 20 {
			t.Errorf("error %d is expected only %d times", err, seen[err])
		}
	}
}

func TestAskOfRandomLists(t *testing.T) {
	source := rand.New(rand.NewSource(10))
	for range 3000 {
		x := state(20, 50, 30)
		for range source.Intn(30) {
			v := min(high, max(-high, randomValue(source)))
			x.Items = append(x.Items, it(11+int64(len(x.Items))/2, v))
		}
		for range 20 {
			q := randomQuery(source)
			want, why := expected(x.Items, q)
			if got, err := Ask(x, q); err != why || !sameAnswer(got, want) {
				t.Fatalf("Ask(%v, %v) = %v, %d, not %v, %d", x, q, got, err, want, why)
			}
		}
	}
}

// TestArguments checks that the items, and the memory before and behind them, stay as they are, and that this memory does not matter.
func TestArguments(t *testing.T) {
	for _, x := range append(validStates(), invalidStates()...) {
		if len(x.Items) > 100 {
			continue
		}
		n := len(x.Items)
		memory := slices.Concat([]api.Item{it(9, 1), it(0, -4)}, x.Items, []api.Item{it(5, 2), it(1, -9), it(7, 7)})
		before := slices.Clone(memory)
		for end := 2 + n; end <= len(memory); end++ {
			y := x
			y.Items = memory[2 : 2+n : end]
			Validate(y)
			for _, v := range []int64{0, 3, -high, high, high + 1, least} {
				checkAdd(t, y, v)
			}
			for _, now := range []int64{x.Now, x.Now + 1, x.Now + 2, x.Now - 1, last, last + 1, -1} {
				checkAdvance(t, y, now)
			}
			for _, q := range queries() {
				a, err := Ask(x, q)
				if b, why := Ask(y, q); err != why || !sameAnswer(a, b) {
					t.Fatalf("Ask(%v, %v) = %v, %d and %v, %d", x, q, a, err, b, why)
				}
			}
			if !slices.Equal(memory, before) {
				t.Fatalf("a call with %v changed it, or what lies beside it: %v", x, memory)
			}
		}
	}
}

// TestBranches checks that the states that were made from one do not disturb each other or the one that they came from.
func TestBranches(t *testing.T) {
	source := rand.New(rand.NewSource(11))
	x, _ := New(6, 12, 0)
	states, copies := []api.Recent{x}, []api.Recent{x}
	for range 2000 {
		from := states[source.Intn(len(states))]
		var to api.Recent
		var err api.Errno
		if source.Intn(3) == 0 {
			to, err = Advance(from, from.Now+source.Int63n(3))
		} else {
			to, err = Add(from, source.Int63n(2*high)-high)
		}
		if err != api.OK && err != api.ErrFull {
			t.Fatalf("a call with %v = %d", from, err)
		}
		if err == api.OK {
			states, copies = append(states, to), append(copies, copied(to))
		}
	}
	for i, x := range states {
		if !same(x, copies[i]) {
			t.Fatalf("state %d was %v and is %v", i, copies[i], x)
		}
	}
	if len(states) < 1000 {
		t.Errorf("only %d states", len(states))
	}
}

func TestTwoStatesOfOne(t *testing.T) {
	for n := range 20 {
		x, _ := New(3, 30, 5)
		for i := range n {
			x, _ = Add(x, int64(i))
		}
		later, _ := Advance(x, 7)
		a, _ := Add(x, 100)
		b, _ := Add(x, 200)
		c, _ := Add(later, 300)
		d, _ := Add(later, 400)
		gone, _ := Advance(x, 8)
		for i, s := range []struct {
			x    api.Recent
			more []api.Item
		}{{x, nil}, {later, nil}, {a, []api.Item{it(5, 100)}}, {b, []api.Item{it(5, 200)}}, {c, []api.Item{it(7, 300)}}, {d, []api.Item{it(7, 400)}}} {
			var want []api.Item
			for v := range n {
				want = append(want, it(5, int64(v)))
			}
			if want = append(want, s.more...); !slices.Equal(s.x.Items, want) {
				t.Errorf("with %d items, state %d has %v", n, i, s.x.Items)
			}
		}
		if !same(gone, state(3, 30, 8)) {
			t.Errorf("with %d items, all have left, but there are %v", n, gone)
		}
	}
}

func TestRefusedCallsChangeNothing(t *testing.T) {
	x := state(3, 2, 5, it(3, 1), it(5, 2))
	for _, call := range []func() api.Errno{
		func() api.Errno { _, err := Add(x, 1); return err },
		func() api.Errno { _, err := Add(x, high+1); return err },
		func() api.Errno { _, err := Advance(x, 4); return err },
		func() api.Errno { _, err := Advance(x, last+1); return err },
		func() api.Errno { _, err := Ask(x, api.Query{}); return err },
		func() api.Errno { _, err := Ask(x, api.Query{Op: api.AskQuantile}); return err },
	} {
		if err := call(); err == api.OK || !same(x, state(3, 2, 5, it(3, 1), it(5, 2))) {
			t.Errorf("error %d, the state is %v", err, x)
		}
	}
	if y, err := Advance(x, 6); err != api.OK || !same(y, state(3, 2, 6, it(5, 2))) {
		t.Errorf("Advance behind refused calls = %v, %d", y, err)
	}
}

// TestResultsAreNewMemory checks that a change of a result changes neither the state nor another result.
func TestResultsAreNewMemory(t *testing.T) {
	x := state(3, 9, 5, it(3, 1), it(5, 2))
	for _, q := range []api.Query{{Op: api.AskExtreme}, {Op: api.AskQuantile, A: 1, B: 2}} {
		a, _ := Ask(x, q)
		want := slices.Clone(a.Values)
		clear(a.Values)
		if b, _ := Ask(x, q); !slices.Equal(b.Values, want) {
			t.Errorf("Ask(%v) = %v after a change of its result", q, b)
		}
	}
	y, _ := Add(x, 7)
	z, _ := Advance(x, 5)
	clear(y.Items)
	clear(z.Items)
	if !same(x, state(3, 9, 5, it(3, 1), it(5, 2))) {
		t.Errorf("a change of a result changes the argument: %v", x)
	}
}
