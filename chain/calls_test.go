package chain

import (
	"math"
	"slices"
	"testing"

	"windowpane/api"
)

// addition is a call of Add, with its results. If there is an error, the index behind the draws is 0.
type addition struct {
	x     api.Chain
	v     int64
	draws []int64
	at    int
	want  api.Chain
	next  int
	why   api.Errno
}

// none is the sample that comes with an error.
var none = api.Chain{}

func (c addition) check(t *testing.T) {
	t.Helper()
	if got, next, err := Add(c.x, c.v, c.draws, c.at); !same(got, c.want) || next != c.next || err != c.why {
		t.Errorf("Add(%v, %d, %v, %d) = %v, %d, %d, not %v, %d, %d", c.x, c.v, c.draws, c.at, got, next, err, c.want, c.next, c.why)
	}
	checkAdd(t, c.x, c.v, c.draws, c.at)
}

// TestFirstItem adds the first item, which makes a draw of the range 1 and one of the range W.
func TestFirstItem(t *testing.T) {
	for _, w := range windows() {
		for _, n := range sizes() {
			x := state(w, n, 0, 0)
			for _, c := range []addition{
				{x, 5, []int64{0, 0}, 0, state(w, n, 1, 2, 1, 5), 2, api.OK}, {x, highest, []int64{0, w - 1}, 0, state(w, n, 1, w+1, 1, highest), 2, api.OK}, {x, -highest, []int64{0, w / 2}, 0, state(w, n, 1, w/2+2, 1, -highest), 2, api.OK}, {x, 0, []int64{9, 9, 0, 0, 9}, 2, state(w, n, 1, 2, 1, 0), 4, api.OK},
				{x, 5, nil, 0, none, 0, api.ErrDraw}, {x, 5, []int64{0}, 0, none, 0, api.ErrDraw}, {x, 5, []int64{1, 0}, 0, none, 0, api.ErrDraw}, {x, 5, []int64{-1, 0}, 0, none, 0, api.ErrDraw}, {x, 5, []int64{0, -1}, 0, none, 0, api.ErrDraw}, {x, 5, []int64{0, w}, 0, none, 0, api.ErrDraw}, {x, 5, []int64{0, most}, 0, none, 0, api.ErrDraw}, {x, 5, []int64{least, 0}, 0, none, 0, api.ErrDraw},
				{x, highest + 1, []int64{0, 0}, 0, none, 0, api.ErrRange}, {x, 5, []int64{0, 0}, -1, none, 0, api.ErrArg},
			} {
				c.check(t)
			}
		}
	}
}

// TestLeaving adds the item at which the first link leaves a window of 3: no coin is tossed.
func TestLeaving(t *testing.T) {
	for _, c := range []addition{
		// A successor among the links, and a new item that is none: no draw.
		{state(3, 2, 5, 7, 3, 1, 4, 2), 9, nil, 0, state(3, 2, 6, 7, 4, 2), 0, api.OK}, {state(3, 2, 5, 7, 3, 1, 4, 2), 9, []int64{0, 0}, 0, state(3, 2, 6, 7, 4, 2), 0, api.OK}, {state(3, 2, 5, 7, 3, 1, 4, 2), 9, []int64{-5, most}, 1, state(3, 2, 6, 7, 4, 2), 1, api.OK}, {state(3, 2, 5, 7, 3, 1, 4, 2), 9, []int64{0, 0}, 2, state(3, 2, 6, 7, 4, 2), 2, api.OK}, {state(3, 2, 5, 7, 3, 1, 4, 2), 9, nil, math.MaxInt, state(3, 2, 6, 7, 4, 2), math.MaxInt, api.OK}, {state(3, 3, 5, 8, 3, 1, 4, 2, 5, 3), -9, nil, 0, state(3, 3, 6, 8, 4, 2, 5, 3), 0, api.OK}, {state(3, 3, 5, 8, 3, 1, 5, 3), -9, nil, 0, state(3, 3, 6, 8, 5, 3), 0, api.OK},
		// With Next equal to the new item: one draw.
		{state(3, 2, 5, 6, 3, 1, 4, 2), 9, []int64{0}, 0, state(3, 2, 6, 7, 4, 2, 6, 9), 1, api.OK}, {state(3, 2, 5, 6, 3, 1, 4, 2), 9, []int64{1}, 0, state(3, 2, 6, 8, 4, 2, 6, 9), 1, api.OK}, {state(3, 2, 5, 6, 3, 1, 4, 2), 9, []int64{2}, 0, state(3, 2, 6, 9, 4, 2, 6, 9), 1, api.OK}, {state(3, 3, 5, 6, 3, 1, 4, 2, 5, 3), 9, []int64{7, 2, 0}, 1, state(3, 3, 6, 9, 4, 2, 5, 3, 6, 9), 2, api.OK},
		{state(3, 2, 5, 6, 3, 1, 4, 2), 9, nil, 0, none, 0, api.ErrDraw}, {state(3, 2, 5, 6, 3, 1, 4, 2), 9, []int64{3}, 0, none, 0, api.ErrDraw}, {state(3, 2, 5, 6, 3, 1, 4, 2), 9, []int64{-1}, 0, none, 0, api.ErrDraw}, {state(3, 2, 5, 6, 3, 1, 4, 2), 9, []int64{1, 1}, 2, none, 0, api.ErrDraw},
		// One link alone, whose successor can only be the new item.
		{state(3, 1, 5, 6, 3, 1), 9, []int64{0}, 0, state(3, 1, 6, 7, 6, 9), 1, api.OK}, {state(3, 1, 5, 6, 3, 1), 9, []int64{2, 0}, 0, state(3, 1, 6, 9, 6, 9), 1, api.OK}, {state(3, 1, 5, 6, 3, 1), 9, nil, 0, none, 0, api.ErrDraw}, {state(3, 1, 5, 6, 3, 1), 9, []int64{3, 0}, 0, none, 0, api.ErrDraw},
		// A window of 1, from which the first link always leaves.
		{state(1, 1, 1, 2, 1, 5), 6, []int64{0}, 0, state(1, 1, 2, 3, 2, 6), 1, api.OK}, {state(1, 1, 1, 2, 1, 5), 6, nil, 0, none, 0, api.ErrDraw}, {state(1, 1, 1, 2, 1, 5), 6, []int64{1}, 0, none, 0, api.ErrDraw}, {state(1, 9, 8, 9, 8, 5), 6, []int64{0, 0}, 0, state(1, 9, 9, 10, 9, 6), 1, api.OK}, {state(1, 1, total-1, total, total-1, 5), 6, []int64{0}, 0, state(1, 1, total, total+1, total, 6), 1, api.OK},
		// The longest window.
		{state(longest, 2, longest, longest+1, 1, 5), 6, []int64{longest - 1}, 0, state(longest, 2, longest+1, 2*longest+1, longest+1, 6), 1, api.OK}, {state(longest, 2, longest, longest+1, 1, 5), 6, []int64{longest}, 0, none, 0, api.ErrDraw}, {state(longest, 2, longest, longest+2, 1, 5, 2, 4), 6, nil, 0, state(longest, 2, longest+1, longest+2, 2, 4), 0, api.OK}, {state(longest, 2, total-1, total, total-longest, 5), 6, []int64{7}, 0, state(longest, 2, total, total+8, total, 6), 1, api.OK},
		// It only just stays.
		{state(3, 2, 5, 7, 4, 1), 9, []int64{2}, 0, state(3, 2, 6, 7, 4, 1), 1, api.OK}, {state(3, 2, 5, 7, 4, 1), 9, nil, 0, none, 0, api.ErrDraw}, {state(3, 2, 2, 3, 1, 1), 9, []int64{1, 2}, 0, state(3, 2, 3, 6, 1, 1, 3, 9), 2, api.OK}, {state(longest, 2, longest-1, longest+1, 1, 5), 6, []int64{1}, 0, state(longest, 2, longest, longest+1, 1, 5), 1, api.OK},
	} {
		c.check(t)
	}
}

// TestCoin adds items that leave the first link in the window, so that they make a draw.
func TestCoin(t *testing.T) {
	later := state(3, 2, 5, 7, 5, 1) // the new item is not its successor
	next := state(3, 2, 5, 6, 5, 1)  // it is
	both := state(3, 2, 5, 6, 4, 1, 5, 2)
	wait := state(3, 2, 5, 8, 4, 1, 5, 2)
	for _, c := range []addition{
		// The draw is 0: the new item becomes the only link, and makes a draw for its successor.
		{later, 9, []int64{0, 0}, 0, state(3, 2, 6, 7, 6, 9), 2, api.OK}, {later, 9, []int64{0, 2}, 0, state(3, 2, 6, 9, 6, 9), 2, api.OK}, {next, 9, []int64{0, 1}, 0, state(3, 2, 6, 8, 6, 9), 2, api.OK}, {both, 9, []int64{0, 1}, 0, state(3, 2, 6, 8, 6, 9), 2, api.OK}, {wait, highest, []int64{5, 5, 0, 1, 5}, 2, state(3, 2, 6, 8, 6, highest), 4, api.OK}, {wait, -highest, []int64{0, 0}, 0, state(3, 2, 6, 7, 6, -highest), 2, api.OK},
		// Another draw: nothing changes.
		{later, 9, []int64{1}, 0, state(3, 2, 6, 7, 5, 1), 1, api.OK}, {later, 9, []int64{2}, 0, state(3, 2, 6, 7, 5, 1), 1, api.OK}, {later, 9, []int64{1, 0}, 0, state(3, 2, 6, 7, 5, 1), 1, api.OK}, {wait, 9, []int64{0, 1, 0}, 1, state(3, 2, 6, 8, 4, 1, 5, 2), 2, api.OK}, {wait, 9, []int64{0, 0, 2}, 2, state(3, 2, 6, 8, 4, 1, 5, 2), 3, api.OK},
		// Another draw, where Next is the new item: it is appended, and makes a draw for its successor.
		{next, 9, []int64{1, 0}, 0, state(3, 2, 6, 7, 5, 1, 6, 9), 2, api.OK}, {next, 9, []int64{2, 2}, 0, state(3, 2, 6, 9, 5, 1, 6, 9), 2, api.OK}, {next, 9, []int64{4, 2, 1, 4}, 1, state(3, 2, 6, 8, 5, 1, 6, 9), 3, api.OK},
		// There would be too many links; a draw for the successor does not matter.
		{both, 9, []int64{1, 0}, 0, none, 0, api.ErrChain}, {both, 9, []int64{1}, 0, none, 0, api.ErrChain}, {both, 9, []int64{2, 3}, 0, none, 0, api.ErrChain}, {both, 9, []int64{2, -1}, 0, none, 0, api.ErrChain}, {both, 9, []int64{0, 2}, 1, none, 0, api.ErrChain},
		// No draw, at each step.
		{later, 9, nil, 0, none, 0, api.ErrDraw}, {both, 9, nil, 0, none, 0, api.ErrDraw}, {both, 9, []int64{1}, 1, none, 0, api.ErrDraw}, {both, 9, []int64{1}, math.MaxInt, none, 0, api.ErrDraw}, {later, 9, []int64{0}, 0, none, 0, api.ErrDraw}, {both, 9, []int64{0}, 0, none, 0, api.ErrDraw}, {next, 9, []int64{1}, 0, none, 0, api.ErrDraw}, {next, 9, []int64{9, 1}, 1, none, 0, api.ErrDraw},
		// Draws out of their range, at each step.
		{later, 9, []int64{3, 0}, 0, none, 0, api.ErrDraw}, {later, 9, []int64{-1, 0}, 0, none, 0, api.ErrDraw}, {both, 9, []int64{3, 0}, 0, none, 0, api.ErrDraw}, {both, 9, []int64{-1, 0}, 0, none, 0, api.ErrDraw}, {both, 9, []int64{most, 0}, 0, none, 0, api.ErrDraw}, {both, 9, []int64{least, 0}, 0, none, 0, api.ErrDraw}, {later, 9, []int64{0, 3}, 0, none, 0, api.ErrDraw}, {later, 9, []int64{0, -1}, 0, none, 0, api.ErrDraw}, {next, 9, []int64{1, 3}, 0, none, 0, api.ErrDraw}, {next, 9, []int64{1, -1}, 0, none, 0, api.ErrDraw}, {next, 9, []int64{1, most}, 0, none, 0, api.ErrDraw}, {next, 9, []int64{1, least}, 0, none, 0, api.ErrDraw}, {next, 9, []int64{1 << 32, 0}, 0, none, 0, api.ErrDraw}, {next, 9, []int64{1<<32 + 1, 0}, 0, none, 0, api.ErrDraw},
	} {
		c.check(t)
	}
}

// TestCoinRange checks that the range of the coin's draw is the number of items until the window is full, and W from then on.
func TestCoinRange(t *testing.T) {
	for _, c := range []struct {
		w, i, m int64
	}{
		{9, 1, 2}, {9, 2, 3}, {9, 6, 7}, {9, 7, 8}, {9, 8, 9}, {9, 9, 9}, {9, 10, 9}, {9, 100, 9}, {9, total - 1, 9}, {2, 1, 2}, {2, 2, 2}, {2, 77, 2}, {longest, 1, 2}, {longest, longest - 2, longest - 1}, {longest, longest - 1, longest}, {longest, longest, longest}, {longest, longest + 1, longest}, {longest, total - 1, longest}, {longest - 1, longest - 1, longest - 1}, {longest - 1, longest, longest - 1},
	} {
		x := state(c.w, 2, c.i, c.i+2, c.i, 5)
		stays := state(c.w, 2, c.i+1, c.i+2, c.i, 5)
		for _, a := range []addition{
			{x, 9, []int64{c.m - 1}, 0, stays, 1, api.OK}, {x, 9, []int64{1}, 0, stays, 1, api.OK}, {x, 9, []int64{0, c.w - 1}, 0, state(c.w, 2, c.i+1, c.i+1+c.w, c.i+1, 9), 2, api.OK},
			{x, 9, []int64{c.m, 0}, 0, none, 0, api.ErrDraw}, {x, 9, []int64{c.m + 1, 0}, 0, none, 0, api.ErrDraw}, {x, 9, []int64{-1, 0}, 0, none, 0, api.ErrDraw}, {x, 9, []int64{0, c.w}, 0, none, 0, api.ErrDraw},
		} {
			a.check(t)
		}
		if m, ok := Needs(x, 9, nil, 0); m != c.m || !ok {
			t.Errorf("Needs(%v) = %d, %t, not %d", x, m, ok, c.m)
		}
		if m, ok := Needs(x, 9, []int64{0}, 0); m != c.w || !ok {
			t.Errorf("Needs(%v, 0) = %d, %t, not %d", x, m, ok, c.w)
		}
	}
}

// TestErrorOrder has calls with several errors: each is taken away in its turn.
func TestErrorOrder(t *testing.T) {
	bad := state(3, 2, total, total, total-1, 1, total, 2)
	last := state(3, 2, total, total+1, total-1, 1, total, 2)
	x := state(3, 2, total-1, total, total-2, 1, total-1, 2)
	for _, c := range []addition{
		{bad, highest + 1, []int64{3}, -1, none, 0, api.ErrState}, {last, highest + 1, []int64{3}, -1, none, 0, api.ErrRange}, {last, highest, []int64{3}, -1, none, 0, api.ErrArg}, {last, highest, []int64{3}, 0, none, 0, api.ErrFull}, {x, highest, []int64{3}, 0, none, 0, api.ErrDraw}, {x, highest, []int64{2}, 0, none, 0, api.ErrChain},
		{bad, 0, []int64{0, 0}, 0, none, 0, api.ErrState}, {x, -highest - 1, []int64{2, 0}, 0, none, 0, api.ErrRange}, {x, 0, []int64{2, 0}, -1, none, 0, api.ErrArg}, {x, 0, []int64{0, 0}, math.MinInt, none, 0, api.ErrArg}, {last, 0, []int64{0, 0}, 0, none, 0, api.ErrFull}, {last, 0, nil, 0, none, 0, api.ErrFull}, {last, 0, nil, 9, none, 0, api.ErrFull}, {last, 0, nil, -1, none, 0, api.ErrArg}, {last, highest + 1, []int64{0, 0}, 0, none, 0, api.ErrRange}, {last, most, []int64{0, 0}, 0, none, 0, api.ErrRange}, {last, least, []int64{0, 0}, 0, none, 0, api.ErrRange},
		{x, 0, []int64{0, 3}, 0, none, 0, api.ErrDraw}, {x, 0, []int64{0, 2}, 0, state(3, 2, total, total+3, total, 0), 2, api.OK},
		{state(1, 1, total, total+1, total, 5), 0, []int64{0}, 0, none, 0, api.ErrFull}, {state(longest, fullest, total, total+longest, total, 5), 0, []int64{1}, 0, none, 0, api.ErrFull},
	} {
		c.check(t)
		if m, ok := Needs(c.x, c.v, c.draws, c.at); m != 0 || ok {
			t.Errorf("Needs(%v, %d, %v, %d) = %d, %t", c.x, c.v, c.draws, c.at, m, ok)
		}
	}
}

// TestMostLinks adds items to samples with as many links as they may have, at each capacity.
func TestMostLinks(t *testing.T) {
	for n := 1; n <= fullest; n++ {
		// In a window that is longer by 1, no link leaves.
		x := full(n)
		x.W++
		x.Next = 1001
		grown := api.Chain{W: x.W, Cap: n, I: 1001, Next: 1002, Links: append(slices.Clone(x.Links), api.Link{I: 1001, V: 9})}
		for _, c := range []addition{
			{x, 9, []int64{1}, 0, none, 0, api.ErrChain}, {x, 9, []int64{1, 0}, 0, none, 0, api.ErrChain}, {x, 9, []int64{0, 0}, 0, state(x.W, n, 1001, 1002, 1001, 9), 2, api.OK}, {x, 9, nil, 0, none, 0, api.ErrDraw},
			// In the window of n items, the first one makes room.
			{full(n), 9, []int64{0}, 0, with(api.Chain{W: int64(n), Cap: n, I: 1001}, 1002, grown.Links[1:]...), 1, api.OK},
		} {
			c.check(t)
		}
		if x.Cap = n + 1; x.Cap <= fullest {
			grown.Cap = n + 1
			addition{x, 9, []int64{1, 0}, 0, grown, 2, api.OK}.check(t)
		}
		// A successor that is yet to come does not fill the sample.
		x.Cap, x.Next = n, 1002
		addition{x, 9, []int64{1}, 0, with(api.Chain{W: x.W, Cap: n, I: 1001}, 1002, x.Links...), 1, api.OK}.check(t)
	}
}

// around returns draws in and out of a range.
func around(m int64) []int64 { return []int64{0, 1, m / 2, m - 1, m, m + 1, -1, least, most} }

func TestAllAdditions(t *testing.T) {
	seen := map[api.Errno]int{}
	for i, x := range validStates() {
		m := min(x.I+1, x.W)
		for _, d := range around(m) {
			for j, e := range around(x.W) {
				switch (i + j) % 3 {
				case 0:
					seen[checkAdd(t, x, int64(j), []int64{d, e}, 0)]++
				case 1:
					seen[checkAdd(t, x, highest, []int64{5, d, e, 5}, 1)]++
				case 2:
					seen[checkAdd(t, x, -highest, []int64{d, e}, i%3)]++
				}
			}
			seen[checkAdd(t, x, -highest, []int64{d}, 0)]++
			seen[checkAdd(t, x, 3, nil, int(d))]++
		}
		for _, v := range []int64{highest + 1, -highest - 1, least, most} {
			seen[checkAdd(t, x, v, []int64{0, 0}, i%4-1)]++
		}
	}
	enough(t, seen, 5000, api.OK, api.ErrRange, api.ErrArg, api.ErrFull, api.ErrDraw, api.ErrChain)
}

func TestNeeds(t *testing.T) {
	later := state(3, 2, 5, 7, 5, 1)
	next := state(3, 2, 5, 6, 5, 1)
	both := state(3, 2, 5, 6, 4, 1, 5, 2)
	leaving := state(3, 2, 5, 6, 3, 1, 4, 2)
	left := state(3, 2, 5, 7, 3, 1, 4, 2)
	young := state(9, 2, 5, 7, 5, 1)
	for i, c := range []struct {
		x     api.Chain
		v     int64
		draws []int64
		at    int
		m     int64
	}{
		// No draw, one and enough, each with more before them.
		{state(9, 2, 0, 0), 1, nil, 0, 1}, {state(9, 2, 0, 0), 1, []int64{0}, 0, 9}, {state(9, 2, 0, 0), 1, []int64{0, 8}, 0, 0}, {state(9, 2, 0, 0), 1, []int64{5, 0}, 1, 9}, {state(9, 2, 0, 0), 1, []int64{5, 0, 8, 5}, 1, 0},
		{young, 1, nil, 0, 6}, {young, 1, []int64{0}, 0, 9}, {young, 1, []int64{5}, 0, 0}, {young, 1, []int64{0, 8}, 0, 0},
		{later, 1, nil, 0, 3}, {later, 1, []int64{0}, 0, 3}, {later, 1, []int64{1}, 0, 0}, {later, 1, []int64{2, 3}, 0, 0}, {later, 1, []int64{0, 2}, 0, 0},
		{next, 1, nil, 0, 3}, {next, 1, []int64{0}, 0, 3}, {next, 1, []int64{1}, 0, 3}, {next, 1, []int64{1, 1}, 0, 0}, {next, 1, []int64{0, 1}, 0, 0},
		{both, 1, nil, 0, 3}, {both, 1, []int64{0}, 0, 3}, {both, 1, []int64{0, 0}, 0, 0},
		{leaving, 1, nil, 0, 3}, {leaving, 1, []int64{0}, 0, 0}, {leaving, 1, []int64{2, 5}, 0, 0},
		{left, 1, nil, 0, 0}, {left, 1, []int64{0}, 0, 0}, {left, 1, nil, 9, 0},
		{state(1, 1, 1, 2, 1, 5), 1, nil, 0, 1}, {state(1, 1, 1, 2, 1, 5), 1, []int64{0}, 0, 0}, {state(longest, 2, total-1, total+5, total-1, 5), 1, nil, 0, longest}, {state(longest, 2, total-1, total+5, total-1, 5), 1, []int64{0}, 0, longest}, {state(longest, 2, total-1, total+5, total-1, 5), 1, []int64{longest - 1}, 0, 0},
		// An index at the list's end, and past it.
		{later, 1, []int64{9, 9}, 2, 3}, {later, 1, []int64{9, 9}, 3, 3}, {later, 1, nil, 1, 3}, {later, 1, []int64{9, 9}, math.MaxInt, 3}, {young, 1, []int64{9, 9}, math.MaxInt - 1, 6}, {leaving, 1, []int64{9, 9}, 2, 3}, {leaving, 1, []int64{9, 9}, 5, 3}, {next, 1, []int64{0, 1}, 1, 3}, {next, 1, []int64{0, 1}, 2, 3},
		// Errors for other reasons.
		{later, highest + 1, nil, 0, 0}, {later, -highest - 1, nil, 0, 0}, {later, most, nil, 0, 0}, {later, least, []int64{0}, 0, 0}, {later, highest, nil, 0, 3}, {later, -highest, nil, 0, 3}, {later, 1, nil, -1, 0}, {later, 1, []int64{0}, -1, 0}, {later, 1, nil, math.MinInt, 0}, {state(3, 2, total, total+1, total, 5), 1, nil, 0, 0}, {state(3, 2, total, total+1, total, 5), 1, []int64{0}, 0, 0}, {both, 1, []int64{1}, 0, 0}, {both, 1, []int64{2}, 0, 0}, {both, 1, []int64{0, 2}, 1, 0}, {api.Chain{}, 1, nil, 0, 0}, {state(3, 2, 5, 5, 5, 1), 1, nil, 0, 0},
		// Draws out of their range.
		{later, 1, []int64{3}, 0, 0}, {later, 1, []int64{-1}, 0, 0}, {later, 1, []int64{most}, 0, 0}, {later, 1, []int64{least}, 0, 0}, {later, 1, []int64{0, 3}, 0, 0}, {later, 1, []int64{0, -1}, 0, 0}, {next, 1, []int64{1, 3}, 0, 0}, {next, 1, []int64{1, -1}, 0, 0}, {leaving, 1, []int64{3}, 0, 0}, {leaving, 1, []int64{-1}, 0, 0}, {young, 1, []int64{6}, 0, 0}, {state(9, 2, 0, 0), 1, []int64{1}, 0, 0}, {state(9, 2, 0, 0), 1, []int64{0, 9}, 0, 0}, {state(9, 2, 0, 0), 1, []int64{0, -1}, 0, 0},
	} {
		if m, ok := Needs(c.x, c.v, c.draws, c.at); m != c.m || ok != (c.m > 0) {
			t.Errorf("case %d: Needs(%v, %d, %v, %d) = %d, %t, not %d", i, c.x, c.v, c.draws, c.at, m, ok, c.m)
		}
		checkNeeds(t, c.x, c.v, c.draws, c.at)
	}
}

// TestNeededDraws checks that Add goes on with each draw of the range that Needs returns, and with no other.
func TestNeededDraws(t *testing.T) {
	seen := map[api.Errno]int{}
	for i, x := range validStates() {
		if x.I == total {
			continue
		}
		for _, first := range [][]int64{nil, {0}, {1}, {min(x.I, x.W-1)}} {
			m, ok := Needs(x, 5, first, 0)
			if !ok {
				continue
			}
			if _, _, err := Add(x, 5, first, 0); err != api.ErrDraw {
				t.Fatalf("Add(%v, %v) = %d, but needs a draw of the range %d", x, first, err, m)
			}
			for _, d := range around(m) {
				draws := append(slices.Clone(first), d)
				_, _, err := Add(x, 5, draws, 0)
				_, more := Needs(x, 5, draws, 0)
				if refused := err == api.ErrDraw && !more; refused != (d < 0 || d >= m) {
					t.Fatalf("case %d: Add(%v, %v) = %d, more draws %t, where a draw of the range %d is needed", i, x, draws, err, more, m)
				}
				seen[err]++
			}
		}
	}
	enough(t, seen, 1000, api.OK, api.ErrDraw, api.ErrChain)
}

func TestAsk(t *testing.T) {
	for _, c := range []struct {
		x   api.Chain
		v   int64
		why api.Errno
	}{
		{state(3, 2, 0, 0), 0, api.ErrEmpty}, {state(1, 1, 0, 0), 0, api.ErrEmpty}, {state(longest, fullest, 0, 0), 0, api.ErrEmpty},
		{state(3, 2, 5, 6, 4, 7), 7, api.OK}, {state(3, 2, 5, 6, 3, 7, 5, 2), 7, api.OK}, {state(3, 3, 5, 6, 3, -7, 4, 9, 5, 2), -7, api.OK}, {state(3, 3, 5, 6, 3, 7, 4, 9, 5, 2), 7, api.OK}, {state(3, 2, 5, 6, 5, highest), highest, api.OK}, {state(3, 2, 5, 6, 3, -highest, 4, highest), -highest, api.OK}, {state(3, 2, 5, 6, 3, 0, 4, highest), 0, api.OK}, {state(1, 1, total, total+1, total, 3), 3, api.OK},
		{api.Chain{}, 0, api.ErrState}, {state(3, 2, 5, 6), 0, api.ErrState}, {state(3, 2, 5, 5, 5, 7), 0, api.ErrState}, {state(3, 2, 0, 0, 0, 7), 0, api.ErrState}, {state(3, 2, 0, 1), 0, api.ErrState}, {state(0, 2, 0, 0), 0, api.ErrState}, {state(3, 0, 0, 0), 0, api.ErrState},
	} {
		if v, err := Ask(c.x); v != c.v || err != c.why {
			t.Errorf("Ask(%v) = %d, %d, not %d, %d", c.x, v, err, c.v, c.why)
		}
	}
	seen := map[api.Errno]int{}
	for _, x := range validStates() {
		seen[checkAsk(t, x)]++
	}
	enough(t, seen, 30, api.OK, api.ErrEmpty)
}
