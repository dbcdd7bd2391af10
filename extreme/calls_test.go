package extreme

import (
	"math/rand"
	"slices"
	"testing"

	"windowpane/api"
)

// ways calls try with a state, and with what it is for the other end of the values; the sign is that of the values.
func ways(x api.Extreme, try func(x api.Extreme, sign int64)) {
	try(x, 1)
	try(mirrored(x), -1)
}

// result returns the state with other items, for the same end of the values as x; or no state, with an error.
func result(x api.Extreme, sign int64, items []api.Item, why api.Errno) api.Extreme {
	if why != api.OK {
		return api.Extreme{}
	}
	list := slices.Clone(items)
	for i := range list {
		list[i].V *= sign
	}
	return with(x, list...)
}

func TestAdvance(t *testing.T) {
	// The window has 5 ticks.
	x := state(5, 9, 10, 6, 9, 7, 8, 9, 3, 10, 1)
	for _, c := range []struct {
		now   int64
		items []api.Item
		why   api.Errno
	}{
		// By nothing, by one tick and more; by W - 1, by W and by more.
		{10, x.Items, api.OK}, {11, it(7, 8, 9, 3, 10, 1), api.OK}, {12, it(9, 3, 10, 1), api.OK}, {13, it(9, 3, 10, 1), api.OK}, {14, it(10, 1), api.OK}, {15, nil, api.OK}, {16, nil, api.OK}, {1000, nil, api.OK}, {last - 1, nil, api.OK}, {last, nil, api.OK},
		{9, nil, api.ErrTime}, {6, nil, api.ErrTime}, {0, nil, api.ErrTime}, {-1, nil, api.ErrTime}, {least, nil, api.ErrTime}, {last + 1, nil, api.ErrTime}, {1 << 32, nil, api.ErrTime}, {1<<32 + 11, nil, api.ErrTime}, {most, nil, api.ErrTime},
	} {
		ways(x, func(x api.Extreme, sign int64) {
			want := result(x, sign, c.items, c.why)
			if c.why == api.OK {
				want.Now = c.now
			}
			got, err := Advance(x, c.now)
			step(t, "Advance", got, err, c.why, want)
		})
	}
}

func TestAdvanceAtTheLimits(t *testing.T) {
	for _, c := range []struct {
		x    api.Extreme
		now  int64
		want api.Extreme
	}{
		// A window of 1.
		{state(1, 1, 0, 0, 5), 0, state(1, 1, 0, 0, 5)}, {state(1, 1, 0, 0, 5), 1, state(1, 1, 1)}, {state(1, 1, 0, 0, 5), last, state(1, 1, last)}, {state(1, 1, last-1, last-1, 5), last, state(1, 1, last)}, {state(1, 1, last, last, 5), last, state(1, 1, last, last, 5)},
		// The longest window.
		{state(longest, 2, 0, 0, 5), longest - 1, state(longest, 2, longest-1, 0, 5)}, {state(longest, 2, 0, 0, 5), longest, state(longest, 2, longest)}, {state(longest, 2, longest-1, 0, 5, longest-1, 4), longest, state(longest, 2, longest, longest-1, 4)}, {state(longest, 2, 1, 0, 5, 1, 4), longest + 1, state(longest, 2, longest+1)}, {state(longest, 2, last-longest+1, last-longest+1, 5), last, state(longest, 2, last, last-longest+1, 5)}, {state(longest, 2, last-longest, last-longest, 5), last, state(longest, 2, last)},
		// No items.
		{state(3, 9, 0), 0, state(3, 9, 0)}, {state(3, 9, 0), last, state(3, 9, last)}, {state(3, 9, last), last, state(3, 9, last)},
		// A window that reaches back before tick 0.
		{state(9, 9, 2, 0, 3, 1, 2, 2, 1), 8, state(9, 9, 8, 0, 3, 1, 2, 2, 1)}, {state(9, 9, 2, 0, 3, 1, 2, 2, 1), 9, state(9, 9, 9, 1, 2, 2, 1)},
	} {
		got, err := Advance(c.x, c.now)
		step(t, "Advance", got, err, api.OK, c.want)
		got, err = Advance(mirrored(c.x), c.now)
		step(t, "Advance", got, err, api.OK, mirrored(c.want))
	}
}

func TestAllAdvances(t *testing.T) {
	seen := map[api.Errno]int{}
	for _, x := range validStates() {
		for _, now := range []int64{x.Now - 1, x.Now, x.Now + 1, x.Now + 2, x.Now + x.W - 1, x.Now + x.W, x.Now + x.W + 1, x.Now + 2*x.W, last - 1, last, last + 1, -1, least, most} {
			seen[checkAdvance(t, x, now)]++
		}
	}
	enough(t, seen, 10000, api.OK, api.ErrTime)
}

// TestLastLiveTick checks that an item goes after its last live tick, and not at it.
func TestLastLiveTick(t *testing.T) {
	for _, w := range windows() {
		for _, at := range []int64{0, 1, 77, last - longest - 1} {
			ways(state(w, 3, at, at, 7), func(x api.Extreme, sign int64) {
				y, err := Advance(x, at+w-1)
				want := copied(x)
				want.Now = at + w - 1
				step(t, "the last live tick", y, err, api.OK, want)
				if v, err := Ask(y); v != sign*7 || err != api.OK {
					t.Fatalf("Ask(%v) = %d, %d", y, v, err)
				}
				for _, from := range []api.Extreme{x, y} {
					z, err := Advance(from, at+w)
					want = with(x)
					want.Now = at + w
					step(t, "the tick after it", z, err, api.OK, want)
					if v, err := Ask(z); v != 0 || err != api.ErrEmpty {
						t.Fatalf("Ask(%v) = %d, %d", z, v, err)
					}
				}
			})
		}
	}
}

func TestAdd(t *testing.T) {
	for i, c := range []struct {
		items []api.Item
		cap   int
		v     int64
		want  []api.Item
		why   api.Errno
	}{
		// The first item.
		{nil, 1, 5, it(9, 5), api.OK}, {nil, 1, highest, it(9, highest), api.OK}, {nil, 1, -highest, it(9, -highest), api.OK}, {nil, fullest, 0, it(9, 0), api.OK},
		// It rules out none, some and all; the last value is equal at an earlier tick.
		{it(1, 9, 2, 5, 3, 1), 9, 0, it(1, 9, 2, 5, 3, 1, 9, 0), api.OK}, {it(1, 9, 2, 5, 3, 1), 9, 1, it(1, 9, 2, 5, 9, 1), api.OK}, {it(1, 9, 2, 5, 3, 1), 9, 2, it(1, 9, 2, 5, 9, 2), api.OK}, {it(1, 9, 2, 5, 3, 1), 9, 4, it(1, 9, 2, 5, 9, 4), api.OK}, {it(1, 9, 2, 5, 3, 1), 9, 5, it(1, 9, 9, 5), api.OK}, {it(1, 9, 2, 5, 3, 1), 9, 8, it(1, 9, 9, 8), api.OK}, {it(1, 9, 2, 5, 3, 1), 9, 9, it(9, 9), api.OK}, {it(1, 9, 2, 5, 3, 1), 9, 10, it(9, 10), api.OK}, {it(1, 9, 2, 5, 3, 1), 9, highest, it(9, highest), api.OK}, {it(1, 9, 2, 5, 3, 1), 9, -highest, it(1, 9, 2, 5, 3, 1, 9, -highest), api.OK},
		// It arrives at the tick of the last item: less, equal and greater.
		{it(1, 9, 9, 5), 9, 4, it(1, 9, 9, 5), api.OK}, {it(1, 9, 9, 5), 9, -highest, it(1, 9, 9, 5), api.OK}, {it(1, 9, 9, 5), 9, 5, it(1, 9, 9, 5), api.OK}, {it(1, 9, 9, 5), 9, 6, it(1, 9, 9, 6), api.OK}, {it(1, 9, 9, 5), 9, 9, it(9, 9), api.OK}, {it(9, 5), 9, 4, it(9, 5), api.OK}, {it(9, 5), 9, 5, it(9, 5), api.OK}, {it(9, 5), 9, 6, it(9, 6), api.OK}, {it(9, highest), 9, -highest, it(9, highest), api.OK}, {it(9, -highest), 9, highest, it(9, highest), api.OK},
		// Just full, and one past that.
		{it(1, 9), 2, 5, it(1, 9, 9, 5), api.OK}, {it(1, 9, 2, 5), 2, 1, nil, api.ErrFull}, {it(1, 9, 2, 5), 3, 1, it(1, 9, 2, 5, 9, 1), api.OK}, {it(1, 9), 1, 8, nil, api.ErrFull}, {it(1, 9, 2, 5, 3, 1), 3, 0, nil, api.ErrFull}, {it(1, 9, 2, 5, 3, 1), 3, -highest, nil, api.ErrFull},
		// Into a full deque: it rules out an item first, or is ruled out itself.
		{it(1, 9), 1, 9, it(9, 9), api.OK}, {it(1, 9), 1, 10, it(9, 10), api.OK}, {it(1, 9, 2, 5), 2, 5, it(1, 9, 9, 5), api.OK}, {it(1, 9, 2, 5), 2, 8, it(1, 9, 9, 8), api.OK}, {it(1, 9, 2, 5), 2, 9, it(9, 9), api.OK}, {it(1, 9, 9, 5), 2, 4, it(1, 9, 9, 5), api.OK}, {it(1, 9, 9, 5), 2, 5, it(1, 9, 9, 5), api.OK}, {it(1, 9, 9, 5), 2, 6, it(1, 9, 9, 6), api.OK}, {it(9, 5), 1, 4, it(9, 5), api.OK}, {it(9, 5), 1, 5, it(9, 5), api.OK}, {it(9, 5), 1, 6, it(9, 6), api.OK},
		// No value; also into a full deque, and into one that would rule it out.
		{it(1, 9), 9, highest + 1, nil, api.ErrRange}, {it(1, 9), 9, -highest - 1, nil, api.ErrRange}, {it(1, 9), 1, highest + 1, nil, api.ErrRange}, {it(1, 9), 1, -highest - 1, nil, api.ErrRange}, {it(9, 5), 1, -highest - 1, nil, api.ErrRange}, {it(9, 5), 1, highest + 1, nil, api.ErrRange}, {nil, 1, highest + 1, nil, api.ErrRange}, {nil, 1, -highest - 1, nil, api.ErrRange}, {it(1, 9, 2, 5), 2, most, nil, api.ErrRange}, {it(1, 9, 2, 5), 2, -most, nil, api.ErrRange}, {it(1, 9, 2, 5), 2, 1 << 32, nil, api.ErrRange}, {it(1, 9, 2, 5), 2, -1 << 32, nil, api.ErrRange}, {it(1, 9, 2, 5), 2, 1<<32 + 5, nil, api.ErrRange},
	} {
		ways(with(state(9, c.cap, 9), c.items...), func(x api.Extreme, sign int64) {
			if got, err := Add(x, sign*c.v); err != c.why || !same(got, result(x, sign, c.want, c.why)) {
				t.Errorf("case %d: Add(%v, %d) = %v, %d", i, x, sign*c.v, got, err)
			}
			checkAdd(t, x, sign*c.v)
		})
	}
}

func TestAllAdditions(t *testing.T) {
	seen := map[api.Errno]int{}
	for _, x := range validStates() {
		for _, v := range []int64{-highest, -highest + 1, -9, -1, 0, 1, 5, 7, 9, highest - 1, highest, highest + 1, -highest - 1, least, most, x.Now} {
			seen[checkAdd(t, x, v)]++
		}
		for _, item := range x.Items {
			for d := int64(-1); d <= 1; d++ {
				seen[checkAdd(t, x, item.V+d)]++
			}
		}
	}
	enough(t, seen, 1000, api.OK, api.ErrRange, api.ErrFull)
}

func TestAsk(t *testing.T) {
	for _, c := range []struct {
		x   api.Extreme
		v   int64
		why api.Errno
	}{
		{state(3, 2, 5), 0, api.ErrEmpty}, {state(1, 1, 0), 0, api.ErrEmpty}, {state(longest, fullest, last), 0, api.ErrEmpty}, {api.Extreme{Max: true, W: 3, Cap: 2, Now: 5, Items: []api.Item{}}, 0, api.ErrEmpty},
		{state(3, 2, 5, 5, 7), 7, api.OK}, {state(3, 2, 5, 3, 0), 0, api.OK}, {state(1, 1, 0, 0, highest), highest, api.OK}, {state(1, 1, last, last, -highest), -highest, api.OK}, {state(longest, 1, last, last-longest+1, -3), -3, api.OK},
		{state(3, 2, 5, 3, 7, 5, 6), 7, api.OK}, {state(9, 9, 9, 1, highest, 2, 5, 9, -highest), highest, api.OK}, {state(9, 3, 9, 1, -1, 2, -5, 9, -7), -1, api.OK}, {steep(100), 50, api.OK},
	} {
		ways(c.x, func(x api.Extreme, sign int64) {
			if got, err := Ask(x); got != sign*c.v || err != c.why {
				t.Errorf("Ask(%v) = %d, %d, not %d, %d", x, got, err, sign*c.v, c.why)
			}
		})
	}
	seen := map[api.Errno]int{}
	for _, x := range validStates() {
		seen[checkAsk(t, x)]++
	}
	enough(t, seen, 500, api.OK, api.ErrEmpty)
}

func TestMerge(t *testing.T) {
	for i, c := range []struct {
		a, b       []api.Item
		capA, capB int
		want       []api.Item
		why        api.Errno
	}{
		// Deques without items.
		{nil, nil, 1, 1, nil, api.OK}, {it(1, 9, 5, 3), nil, 2, 2, it(1, 9, 5, 3), api.OK}, {it(1, 9, 5, 3), nil, 2, 1, it(1, 9, 5, 3), api.OK}, {it(9, -highest), nil, 1, fullest, it(9, -highest), api.OK},
		// Items that alternate.
		{it(1, 9, 3, 7, 5, 5), it(2, 8, 4, 6, 6, 4), 6, 6, it(1, 9, 2, 8, 3, 7, 4, 6, 5, 5, 6, 4), api.OK}, {it(1, 9, 4, 2), it(2, 8, 3, 7), 4, 4, it(1, 9, 2, 8, 3, 7, 4, 2), api.OK}, {it(1, 9, 2, 8), it(5, 7, 6, 6), 4, 4, it(1, 9, 2, 8, 5, 7, 6, 6), api.OK},
		// Some items are ruled out, on both sides.
		{it(1, 9, 3, 5, 5, 1), it(2, 6, 4, 5), 4, 4, it(1, 9, 2, 6, 4, 5, 5, 1), api.OK}, {it(1, 5, 3, 4), it(2, 7, 4, 1), 4, 4, it(2, 7, 3, 4, 4, 1), api.OK}, {it(1, highest, 9, -highest), it(1, highest-1, 9, highest-2), 4, 4, it(1, highest, 9, highest-2), api.OK},
		// Equal items, and deques that are equal.
		{it(1, 9), it(1, 9), 1, 1, it(1, 9), api.OK}, {it(1, 9, 3, 5), it(1, 9, 3, 5), 2, 2, it(1, 9, 3, 5), api.OK}, {it(1, 9, 3, 5), it(2, 7, 3, 5), 3, 3, it(1, 9, 2, 7, 3, 5), api.OK}, {it(1, 9, 3, 5, 4, 2), it(1, 9, 4, 2), 3, 3, it(1, 9, 3, 5, 4, 2), api.OK},
		// Items of one tick with different values, and of different ticks with one value.
		{it(3, 5), it(3, 4), 1, 1, it(3, 5), api.OK}, {it(1, 9, 3, 5), it(3, 6), 2, 2, it(1, 9, 3, 6), api.OK}, {it(1, 9, 3, 5), it(3, 9), 2, 2, it(3, 9), api.OK}, {it(1, 9, 3, 5), it(3, 4, 4, 3), 3, 3, it(1, 9, 3, 5, 4, 3), api.OK}, {it(3, 5), it(4, 5), 1, 1, it(4, 5), api.OK}, {it(1, 9, 3, 5), it(2, 9, 4, 5), 2, 2, it(2, 9, 4, 5), api.OK},
		// All items of one are ruled out by the other.
		{it(1, 9, 3, 5, 5, 1), it(6, 9), 3, 1, it(6, 9), api.OK}, {it(1, 9, 3, 5, 5, 1), it(5, 10), 3, 1, it(5, 10), api.OK}, {it(1, 9, 3, 5, 5, 1), it(3, 9, 5, 8), 3, 2, it(3, 9, 5, 8), api.OK}, {it(2, 9, 4, 8), it(1, 9, 3, 8), 2, 2, it(2, 9, 4, 8), api.OK}, {it(5, 1, 6, 0), it(9, highest), 2, 2, it(9, highest), api.OK},
		// Just full, and one past that; the greater capacity counts.
		{it(1, 9, 3, 5), it(2, 7), 3, 1, it(1, 9, 2, 7, 3, 5), api.OK}, {it(1, 9, 3, 5), it(2, 7), 2, 2, nil, api.ErrFull}, {it(1, 9, 3, 5), it(2, 7), 2, 1, nil, api.ErrFull}, {it(1, 9, 3, 5), it(2, 7), 2, 3, it(1, 9, 2, 7, 3, 5), api.OK}, {it(1, 9), it(2, 8), 1, 1, nil, api.ErrFull}, {it(1, 9), it(2, 8), 2, 1, it(1, 9, 2, 8), api.OK}, {it(1, 9), it(2, 9), 1, 1, it(2, 9), api.OK}, {it(1, 9, 3, 5, 5, 1), it(2, 7, 4, 3, 6, 0), 5, 5, nil, api.ErrFull}, {it(1, 9, 3, 5, 5, 1), it(2, 7, 4, 3, 6, 0), 6, 5, it(1, 9, 2, 7, 3, 5, 4, 3, 5, 1, 6, 0), api.OK}, {it(1, 9, 3, 5, 5, 1), it(2, 7, 4, 3, 6, 1), 5, 5, it(1, 9, 2, 7, 3, 5, 4, 3, 6, 1), api.OK}, {it(1, 9, 3, 5, 5, 1), it(2, 7, 4, 3, 6, 1), 4, 3, nil, api.ErrFull}, {it(1, 9), it(2, 8), fullest, fullest - 1, it(1, 9, 2, 8), api.OK},
	} {
		ways(with(state(9, c.capA, 9), c.a...), func(a api.Extreme, sign int64) {
			b := result(a, sign, c.b, api.OK)
			b.Cap = c.capB
			want := result(a, sign, c.want, c.why)
			if c.why == api.OK {
				want.Cap = max(c.capA, c.capB)
			}
			for _, pair := range [][2]api.Extreme{{a, b}, {b, a}} {
				if got, err := Merge(pair[0], pair[1]); err != c.why || !same(got, want) {
					t.Errorf("case %d: Merge(%v, %v) = %v, %d, not %v, %d", i, pair[0], pair[1], got, err, want, c.why)
				}
				checkMerge(t, pair[0], pair[1])
			}
		})
	}
}

// TestMergeErrors has pairs to which several errors apply.
func TestMergeErrors(t *testing.T) {
	a := state(9, 2, 9, 1, 9, 3, 5)
	full := state(9, 2, 9, 2, 7, 9, 1)
	for i, c := range []struct {
		a, b api.Extreme
		why  api.Errno
	}{
		{a, full, api.ErrFull}, {a, a, api.OK}, {full, full, api.OK},
		// Max, W and Now differ: alone, all of them, and where there would be too many items.
		{a, state(8, 2, 9), api.ErrArg}, {a, state(10, 2, 9), api.ErrArg}, {a, state(9, 2, 8), api.ErrArg}, {a, state(9, 2, 10), api.ErrArg}, {a, mirrored(state(9, 2, 9)), api.ErrArg}, {a, mirrored(state(longest, fullest, last)), api.ErrArg},
		{a, state(8, 2, 9, 2, 7, 9, 1), api.ErrArg}, {a, state(9, 2, 8, 2, 7, 8, 1), api.ErrArg}, {a, mirrored(full), api.ErrArg}, {mirrored(a), full, api.ErrArg}, {a, state(longest, 2, 9, 2, 7, 9, 1), api.ErrArg}, {a, mirrored(state(8, 2, 8, 2, 7, 8, 1)), api.ErrArg}, {a, api.Extreme{W: 9, Cap: 2, Now: 9, Items: it(2, 7)}, api.ErrArg},
		// The capacity may differ.
		{a, state(9, 1, 9), api.OK}, {a, state(9, fullest, 9), api.OK}, {a, state(9, 3, 9, 2, 7), api.OK},
		// An invalid state comes first.
		{a, api.Extreme{}, api.ErrState}, {api.Extreme{}, api.Extreme{}, api.ErrState}, {a, state(9, 1, 9, 2, 7, 9, 1), api.ErrState}, {a, state(9, 2, 9, 2, 7, 9, 7), api.ErrState}, {a, state(9, 2, 9, 2, 7, 10, 1), api.ErrState}, {a, state(8, 2, 9, 1, 7, 9, 1), api.ErrState}, {a, state(9, 2, 8, 2, 7, 9, 1), api.ErrState}, {a, mirrored(state(9, 2, 9, 2, 7, 9, 7)), api.ErrState}, {a, api.Extreme{W: 9, Cap: 2, Now: 9, Items: it(2, 7, 9, 1)}, api.ErrState}, {a, state(0, 2, 9), api.ErrState}, {a, state(9, 0, 9), api.ErrState}, {a, state(9, 2, -1), api.ErrState}, {a, state(9, 2, last+1), api.ErrState}, {state(9, 1, 9, 2, 7, 9, 1), state(9, 2, 9, 2, 7, 9, 7), api.ErrState},
	} {
		for _, pair := range [][2]api.Extreme{{c.a, c.b}, {c.b, c.a}, {mirrored(c.a), mirrored(c.b)}, {mirrored(c.b), mirrored(c.a)}} {
			got, err := Merge(pair[0], pair[1])
			if err != c.why || err != api.OK && !same(got, api.Extreme{}) {
				t.Errorf("case %d: Merge(%v, %v) = %v, %d, not %d", i, pair[0], pair[1], got, err, c.why)
			}
			checkMerge(t, pair[0], pair[1])
		}
	}
}

// smallDeques returns all valid deques with this window, tick and capacity and values from 0 to 3.
func smallDeques(end bool, w int64, size int, now int64) []api.Extreme {
	var list []api.Extreme
	var extend func(x api.Extreme, at int64)
	extend = func(x api.Extreme, at int64) {
		if !valid(x) {
			return
		}
		list = append(list, x)
		for ; at <= now; at++ {
			for v := int64(0); v <= 3; v++ {
				extend(with(x, append(slices.Clone(x.Items), it(at, v)...)...), at+1)
			}
		}
	}
	extend(api.Extreme{Max: end, W: w, Cap: size, Now: now}, max(0, now-w+1))
	return list
}

// TestAllSmallMerges merges all pairs of small deques.
func TestAllSmallMerges(t *testing.T) {
	seen := map[api.Errno]int{}
	for _, end := range []bool{true, false} {
		for _, w := range []int64{1, 2, 4} {
			for n := 1; n <= 4; n++ {
				for m := 1; m <= n; m++ {
					for _, a := range smallDeques(end, w, n, 6) {
						for _, b := range smallDeques(end, w, m, 6) {
							seen[checkMerge(t, a, b)]++
							seen[checkMerge(t, b, a)]++
						}
					}
				}
			}
		}
	}
	enough(t, seen, 1000, api.OK, api.ErrFull)
}

// TestMergedPairs merges pairs of states at the limits, most of which do not fit together.
func TestMergedPairs(t *testing.T) {
	source := rand.New(rand.NewSource(51))
	seen := map[api.Errno]int{}
	states := validStates()
	for i, x := range states {
		for _, y := range states[i:min(len(states), i+12)] {
			seen[checkMerge(t, x, y)]++
			seen[checkMerge(t, y, x)]++
		}
		seen[checkMerge(t, x, states[source.Intn(len(states))])]++
		if got, err := Merge(x, x); err != api.OK || !same(got, x) {
			t.Fatalf("Merge of %v with itself = %v, %d", x, got, err)
		}
	}
	enough(t, seen, 300, api.OK, api.ErrFull, api.ErrArg)
}

// TestGreatestDeque has as many items as there are values, one at each tick.
func TestGreatestDeque(t *testing.T) {
	const n = 2*highest + 1
	ways(with(state(longest, fullest, last), slope(n, last, highest)...), func(x api.Extreme, sign int64) {
		if v, err := Ask(x); Validate(x) != api.OK || v != sign*highest || err != api.OK {
			t.Fatalf("the answer is %d, %d", v, err)
		}
		y, err := Add(x, sign*-highest)
		step(t, "an item that is there", y, err, api.OK, x)
		y, err = Add(x, 0)
		step(t, "an item that rules out the later half", y, err, api.OK, with(x, append(slices.Clone(x.Items[:highest]), it(last, 0)...)...))
		y, err = Add(x, sign*highest)
		step(t, "an item that rules out all", y, err, api.OK, with(x, it(last, sign*highest)...))
		y, err = Merge(x, x)
		step(t, "a merge with itself", y, err, api.OK, x)
		var even, odd []api.Item
		for i, item := range x.Items {
			if i%2 == 0 {
				even = append(even, item)
			} else {
				odd = append(odd, item)
			}
		}
		y, err = Merge(with(x, even...), with(x, odd...))
		step(t, "a merge of items that alternate", y, err, api.OK, x)
		small := with(x, even...)
		small.Cap = n - 1
		other := with(small, odd...)
		y, err = Merge(small, other)
		step(t, "a merge of one item too many", y, err, api.ErrFull, api.Extreme{})
		small.Cap = n
		y, err = Merge(other, small)
		want := copied(x)
		want.Cap = n
		step(t, "a merge that is just full", y, err, api.OK, want)
	})
}
