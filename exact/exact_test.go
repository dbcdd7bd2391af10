package exact

import (
	"math"
	"math/big"
	"math/rand"
	"slices"
	"testing"

	"windowpane/api"
)

const (
	least   = math.MinInt64
	most    = math.MaxInt64
	last    = api.MaxTick
	longest = api.MaxWindow
)

func it(t, v int64) api.Item { return api.Item{T: t, V: v} }

// values returns items with these values; their ticks do not ascend, and some are no ticks.
func values(list ...int64) []api.Item {
	var items []api.Item
	for i, v := range list {
		items = append(items, it([]int64{5, 0, -3, 5, most, least}[i%6], v))
	}
	return items
}

// at returns items with these ticks, and with values of all signs.
func at(ticks ...int64) []api.Item {
	var items []api.Item
	for i, t := range ticks {
		items = append(items, it(t, []int64{7, -7, 0, least, most}[i%5]))
	}
	return items
}

// same returns n times the value v.
func same(n int, v int64) []int64 { return slices.Repeat([]int64{v}, n) }

// examples returns the items of the chapter's examples.
func examples() []api.Item { return []api.Item{it(0, 2), it(1, 4), it(1, 9)} }

// tick and window say which numbers are valid, with the limits written out.
func tick(n int64) bool   { return n > -1 && n < 16777217 }
func window(n int64) bool { return n > 0 && n < 1048577 }

// edges returns the numbers around all limits.
func edges() []int64 {
	var list []int64
	for d := int64(-2); d <= 2; d++ {
		list = append(list, d, longest+d, last-longest+d, last+d, 1<<32+d, math.MaxInt32+d, math.MinInt32+d)
	}
	for d := range int64(3) {
		list = append(list, least+d, most-d, least+longest+d, most-longest-d)
	}
	return list
}

// smallLists calls try with all lists of up to n items whose ticks are from -1 to 4.
func smallLists(n int, try func(items []api.Item)) {
	var extend func(items []api.Item)
	extend = func(items []api.Item) {
		try(items)
		if len(items) == n {
			return
		}
		for t := int64(-1); t <= 4; t++ {
			extend(append(slices.Clone(items), it(t, int64(len(items))-1)))
		}
	}
	extend(nil)
}

// inOrder says what Valid returns.
func inOrder(items []api.Item, now int64) bool {
	for i, x := range items {
		if x.T < 0 || x.T > now || i > 0 && items[i-1].T > x.T {
			return false
		}
	}
	return tick(now)
}

func TestValid(t *testing.T) {
	for _, c := range []struct {
		items []api.Item
		now   int64
		want  bool
	}{
		{examples(), 1, true}, {examples(), 2, true}, {examples(), last, true}, {examples(), 0, false},
		// The empty list.
		{nil, 0, true}, {[]api.Item{}, 5, true}, {nil, last, true}, {at(9)[:0], 3, true}, {nil, -1, false}, {nil, least, false}, {nil, last + 1, false}, {nil, most, false},
		// Equal ticks, and the first and the last tick.
		{at(0), 0, true}, {at(0, 0, 0), 0, true}, {at(3, 3, 3), 3, true}, {at(0, 0, 3, 3, 5, 5), 5, true}, {at(last), last, true}, {at(0, last, last), last, true}, {at(0, last-1), last - 1, true},
		// Now is no tick.
		{at(0), -1, false}, {at(-1), -1, false}, {at(least), least, false}, {at(0), last + 1, false}, {at(last + 1), last + 1, false}, {at(0), most, false}, {at(most), most, false},
		// A tick is less than the one before it: at the front, in the middle, at the end.
		{at(1, 0), 5, false}, {at(1, 0, 2, 3), 5, false}, {at(0, 2, 1, 3), 5, false}, {at(0, 1, 3, 2), 5, false}, {at(5, 4), 5, false}, {at(0, 0, 5, 0), 5, false}, {at(last, 0), last, false},
		// A tick is negative.
		{at(-1), 5, false}, {at(-1, 0), 5, false}, {at(-1, -1), 5, false}, {at(0, -1), 5, false}, {at(0, -1, 5), 5, false}, {at(least), 5, false}, {at(least, 0), 0, false}, {at(-1), 0, false},
		// A tick is later than now.
		{at(6), 5, false}, {at(0, 6), 5, false}, {at(5, 6), 5, false}, {at(6, 5), 5, false}, {at(0, 6, 5), 5, false}, {at(1), 0, false}, {at(last), last - 1, false}, {at(last + 1), last, false}, {at(most), last, false}, {at(0, most), 5, false},
	} {
		if got := Valid(c.items, c.now); got != c.want {
			t.Errorf("Valid(%v, %d) = %t", c.items, c.now, got)
		}
	}
}

func TestLive(t *testing.T) {
	list := at(0, 2, 3, 3, 5)
	for _, c := range []struct {
		items  []api.Item
		now, w int64
		want   []api.Item
	}{
		{examples(), 3, 3, examples()[1:]}, {examples(), 1, 2, examples()}, {examples(), 1, 1, examples()[1:]}, {examples(), 5, 3, nil},
		// The windows begin at each tick of the list, and beside it.
		{list, 5, 1, list[4:]}, {list, 5, 2, list[4:]}, {list, 5, 3, list[2:]}, {list, 5, 4, list[1:]}, {list, 5, 5, list[1:]}, {list, 5, 6, list}, {list, 5, 7, list}, {list, 5, longest, list}, {list, 6, 3, list[4:]}, {list, 7, 3, list[4:]}, {list, 8, 3, nil}, {list, last, longest, nil},
		// The first tick of a window, the one before it, and the last one.
		{at(2), 5, 3, nil}, {at(3), 5, 3, at(3)}, {at(5), 5, 3, at(5)}, {at(0), 0, 1, at(0)}, {at(0), 1, 1, nil}, {at(1, 1), 1, 1, at(1, 1)}, {at(last), last, 1, at(last)}, {at(last - 1), last, 1, nil}, {at(last-longest, last-longest+1, last), last, longest, at(last-longest, last-longest+1, last)[1:]},
		// Equal ticks at the first one of the window, and before it.
		{at(3, 3, 3), 5, 3, at(3, 3, 3)}, {at(2, 2, 2), 5, 3, nil}, {at(2, 2, 3, 3, 5, 5), 5, 3, at(2, 2, 3, 3, 5, 5)[2:]},
		// A window that reaches back before tick 0, and the empty list.
		{at(0, 0, 1), 1, 3, at(0, 0, 1)}, {at(0), 0, longest, at(0)}, {nil, 5, 3, nil}, {[]api.Item{}, 0, 1, nil},
		// There is no such window.
		{list, 5, 0, nil}, {list, 5, -1, nil}, {list, 5, least, nil}, {list, 5, longest + 1, nil}, {list, 5, last, nil}, {list, 5, most, nil}, {list, -1, 3, nil}, {list, least, 3, nil}, {list, last + 1, longest, nil}, {list, most, 3, nil}, {at(last + 1), last + 1, 3, nil}, {at(-1), -1, 3, nil},
		// The list is not in order, although some of its ticks, or all, would be live.
		{at(5, 4), 5, 3, nil}, {at(1, 0, 5), 5, 3, nil}, {at(3, 5, 4), 5, 3, nil}, {at(-1, 5), 5, 3, nil}, {at(5, -1), 5, 3, nil}, {at(5, 6), 5, 3, nil}, {at(4, 6, 5), 5, 3, nil}, {at(5, most), 5, 3, nil}, {at(least, 5), 5, 3, nil},
	} {
		if got := Live(c.items, c.now, c.w); !slices.Equal(got, c.want) {
			t.Errorf("Live(%v, %d, %d) = %v, not %v", c.items, c.now, c.w, got, c.want)
		}
	}
}

func TestValidAndLiveOfAllSmallLists(t *testing.T) {
	seen := map[bool]int{}
	smallLists(5, func(items []api.Item) {
		for now := int64(-1); now <= 5; now++ {
			valid := inOrder(items, now)
			seen[valid]++
			if got := Valid(items, now); got != valid {
				t.Fatalf("Valid(%v, %d) = %t", items, now, got)
			}
			for w := int64(-1); w <= 7; w++ {
				var want []api.Item
				for _, x := range items {
					if valid && w >= 1 && now-w < x.T {
						want = append(want, x)
					}
				}
				if got := Live(items, now, w); !slices.Equal(got, want) {
					t.Fatalf("Live(%v, %d, %d) = %v, not %v", items, now, w, got, want)
				}
			}
		}
	})
	if seen[true] < 500 || seen[false] < 500 {
		t.Errorf("the results are too much alike: %v", seen)
	}
}

func TestValidAndLiveAroundTheLimits(t *testing.T) {
	for _, now := range edges() {
		if got := Valid(nil, now); got != tick(now) {
			t.Errorf("Valid(nil, %d) = %t", now, got)
		}
		for _, n := range edges() {
			valid := tick(now) && tick(n) && n <= now
			if got := Valid(at(n), now); got != valid {
				t.Errorf("Valid of tick %d at %d = %t", n, now, got)
			}
			for _, w := range edges() {
				want := valid && window(w) && now-w < n
				if got := Live(at(n), now, w); want != slices.Equal(got, at(n)) || !want && len(got) != 0 {
					t.Errorf("Live of tick %d at %d with the window %d = %v", n, now, w, got)
				}
			}
		}
	}
}

func TestLiveOfLongLists(t *testing.T) {
	const size = 1 << 16
	items := make([]api.Item, size)
	for i := range items {
		items[i] = it(last-size/2+1+int64(i/2), int64(-i))
	}
	for _, w := range []int64{1, 2, 1000, size/2 - 1, size / 2, size/2 + 1, longest} {
		want := items[size-min(size, int(2*w)):]
		if got := Live(items, last, w); !slices.Equal(got, want) {
			t.Errorf("Live with the window %d has %d items, not %d", w, len(got), len(want))
		}
	}
	for _, i := range []int{0, 1, size / 2, size - 1} {
		spoilt := slices.Clone(items)
		spoilt[i].T = -1
		if Valid(spoilt, last) || len(Live(spoilt, last, longest)) != 0 {
			t.Errorf("a list whose item %d has no tick is valid", i)
		}
	}
}

func TestLiveIsNewMemory(t *testing.T) {
	items := at(1, 2, 3)
	for _, w := range []int64{1, 2, 3} {
		list := Live(items, 3, w)
		for i := range list {
			list[i] = it(0, 99)
		}
		_ = append(list[:len(list):len(list)], it(0, 99))
	}
	if !slices.Equal(items, at(1, 2, 3)) {
		t.Errorf("a change of the result changes the argument: %v", items)
	}
}

func TestCount(t *testing.T) {
	for _, c := range []struct {
		items []api.Item
		want  int64
	}{
		{nil, 0}, {[]api.Item{}, 0}, {at(1, 2)[:0], 0}, {values(0), 1}, {examples(), 3}, {values(5, 5, 5, 5), 4}, {at(9, 3, -1, most), 4}, {values(same(70000, least)...), 70000},
	} {
		if got := Count(c.items); got != c.want {
			t.Errorf("Count of %d items = %d", c.want, got)
		}
	}
}

func TestSum(t *testing.T) {
	for _, c := range []struct {
		items []api.Item
		want  int64
		ok    bool
	}{
		{examples(), 15, true}, {nil, 0, true}, {[]api.Item{}, 0, true}, {values(0), 0, true}, {values(-7), -7, true}, {values(5, -5), 0, true}, {values(-4, 1, 2), -1, true}, {values(most), most, true}, {values(least), least, true},
		// Just an int64, and just none.
		{values(most, 0), most, true}, {values(most-1, 1), most, true}, {values(most, 1), 0, false}, {values(1, most), 0, false}, {values(least, 0), least, true}, {values(least+1, -1), least, true}, {values(least, -1), 0, false}, {values(-1, least), 0, false}, {values(1<<62, 1<<62), 0, false}, {values(1<<62, 1<<62-1), most, true}, {values(-1<<62, -1<<62), least, true}, {values(-1<<62, -1<<62, -1), 0, false},
		// A part of the sum is not an int64, but the whole sum is.
		{values(most, 1, -1), most, true}, {values(least, -1, 1), least, true}, {values(most, most, -most), most, true}, {values(least, least, most, most, 2), 0, true}, {values(most, most, least, least, 1), -1, true}, {values(least, most), -1, true}, {values(most, least), -1, true}, {values(most, most, most, least, least, least), -3, true}, {values(1<<62, 1<<62, -1), most, true},
		// The sum wraps around to an int64, but it is none.
		{values(least, least), 0, false}, {values(most, most, 2), 0, false}, {values(most, most), 0, false}, {values(least, least, least, least), 0, false}, {values(most, most, most, most, 4), 0, false}, {values(most, most, most), 0, false}, {values(least, least, 5), 0, false},
	} {
		if got, ok := Sum(c.items); got != c.want || ok != c.ok {
			t.Errorf("Sum(%v) = %d, %t, not %d, %t", c.items, got, ok, c.want, c.ok)
		}
	}
}

func TestSquares(t *testing.T) {
	for _, c := range []struct {
		items []api.Item
		want  int64
		ok    bool
	}{
		{examples(), 101, true}, {nil, 0, true}, {[]api.Item{}, 0, true}, {values(0), 0, true}, {values(1), 1, true}, {values(-1), 1, true}, {values(3, -4), 25, true}, {values(-2, -2, -2), 12, true}, {values(1<<31, -1<<31+1), 9223372032559808513, true},
		// Just an int64, and just none: 2^63 - 1 as a sum of five squares, and 2^63.
		{values(3037000499), 9223372030926249001, true}, {values(-3037000499), 9223372030926249001, true}, {values(3037000500), 0, false}, {values(-3037000500), 0, false}, {values(1<<31, 1<<31), 0, false}, {values(1<<31, -1<<31), 0, false}, {values(3037000499, 76996, 377, 25, 6), most, true}, {values(-3037000499, 76996, -377, 25, 6, 0), most, true}, {values(3037000499, 76996, 377, 25, 6, 1), 0, false}, {values(-1, 3037000499, -76996, 377, 25, 6), 0, false}, {values(3037000499, 3037000499), 0, false},
		// The sum wraps around to an int64, but it is none.
		{values(1 << 32), 0, false}, {values(-1 << 32), 0, false}, {values(1<<32, 1), 0, false}, {values(least), 0, false}, {values(least, 3), 0, false}, {values(most), 0, false}, {values(-most), 0, false}, {values(least, least, least, least), 0, false}, {values(least, least, least, least, 5), 0, false}, {values(5, least, least, least, least), 0, false}, {values(most, 0), 0, false}, {values(1<<62, 1<<62), 0, false},
	} {
		if got, ok := Squares(c.items); got != c.want || ok != c.ok {
			t.Errorf("Squares(%v) = %d, %t, not %d, %t", c.items, got, ok, c.want, c.ok)
		}
	}
}

func TestLeastAndGreatest(t *testing.T) {
	for _, c := range []struct {
		items []api.Item
		low   int64
		high  int64
		ok    bool
	}{
		{nil, 0, 0, false}, {[]api.Item{}, 0, 0, false}, {values(5)[:0], 0, 0, false}, {examples(), 2, 9, true}, {values(0), 0, 0, true}, {values(7), 7, 7, true}, {values(-7), -7, -7, true}, {values(5, 5, 5), 5, 5, true}, {values(-5, -3), -5, -3, true}, {values(-3, -5), -5, -3, true}, {values(3, 5), 3, 5, true}, {values(1, 2, 3), 1, 3, true}, {values(3, 2, 1), 1, 3, true}, {values(2, 3, 1), 1, 3, true}, {values(2, 1, 3, 2), 1, 3, true},
		{values(least), least, least, true}, {values(most), most, most, true}, {values(least, most), least, most, true}, {values(most, 0, least), least, most, true}, {values(0, least, most, 0), least, most, true}, {values(most-1, most), most - 1, most, true}, {values(least+1, least), least, least + 1, true},
	} {
		if got, ok := Least(c.items); got != c.low || ok != c.ok {
			t.Errorf("Least(%v) = %d, %t", c.items, got, ok)
		}
		if got, ok := Greatest(c.items); got != c.high || ok != c.ok {
			t.Errorf("Greatest(%v) = %d, %t", c.items, got, ok)
		}
	}
}

// great returns 16 values whose spread is 2^63 - 1.
func great() []int64 {
	return append([]int64{2147483645, -2147483645, 113511, -113511, 393, -393, -16, 1, 19}, same(7, 0)...)
}

// greater returns 16 values whose spread is 2^63.
func greater() []int64 {
	return append([]int64{2147483646, -2147483646, 92681, -92681, 408, -408, -22, 11, 11}, same(7, 0)...)
}

// moved returns the values with d added to each.
func moved(list []int64, d int64) []int64 {
	var out []int64
	for _, v := range list {
		out = append(out, v+d)
	}
	return out
}

func TestSpread(t *testing.T) {
	for _, c := range []struct {
		items []api.Item
		n, d  int64
		ok    bool
	}{
		{examples(), 26, 1, true}, {nil, 0, 1, true}, {[]api.Item{}, 0, 1, true}, {values(3)[:0], 0, 1, true},
		// One item, and equal values.
		{values(0), 0, 1, true}, {values(7), 0, 1, true}, {values(-7), 0, 1, true}, {values(least), 0, 1, true}, {values(most), 0, 1, true}, {values(5, 5), 0, 1, true}, {values(-5, -5, -5), 0, 1, true}, {values(same(9, least)...), 0, 1, true}, {values(same(9, most)...), 0, 1, true}, {values(same(70000, least)...), 0, 1, true},
		// In lowest terms.
		{values(0, 1), 1, 2, true}, {values(-1, 1), 2, 1, true}, {values(0, 0, 1), 2, 3, true}, {values(0, 0, 3), 6, 1, true}, {values(0, 0, 0, 1), 3, 4, true}, {values(0, 0, 1, 1), 1, 1, true}, {values(1, 2, 3, 4), 5, 1, true}, {values(-3, -2, 0, 9), 90, 1, true}, {values(0, 0, 0, 0, 0, 1), 5, 6, true}, {values(0, 0, 0, 1, 1, 1), 3, 2, true},
		// The sum or the sum of squares is not an int64, but the spread fits.
		{values(most, most-1), 1, 2, true}, {values(least, least+1), 1, 2, true}, {values(least, least+1, least+5), 14, 1, true}, {values(most, most, most-3), 6, 1, true}, {values(1<<62, 1<<62+1, 1<<62+2, 1<<62+3), 5, 1, true}, {values(1<<40, 1<<40+1), 1, 2, true}, {values(-1<<40, -1<<40+2), 2, 1, true}, {values(1<<32, 1<<32), 0, 1, true},
		// Its numerator over the number of items is not an int64 either.
		{values(0, 3037000499), 9223372030926249001, 2, true}, {values(0, 3037000500), 4611686018500125000, 1, true}, {values(0, 3037000501), 0, 0, false}, {values(0, 3037000502), 4611686024574126002, 1, true}, {values(0, 1<<32-2), 9223372028264841218, 1, true}, {values(0, 1<<32-1), 0, 0, false}, {values(0, 1<<32), 0, 0, false}, {values(least, least+1<<32-2), 9223372028264841218, 1, true}, {values(most, most-1<<32+2), 9223372028264841218, 1, true}, {values(most, most-1<<32), 0, 0, false},
		// Just an int64, and just none.
		{values(great()...), most, 1, true}, {values(moved(great(), 1<<62)...), most, 1, true}, {values(moved(great(), -1<<62)...), most, 1, true}, {values(greater()...), 0, 0, false}, {values(moved(greater(), 1<<62)...), 0, 0, false}, {values(moved(greater(), -1<<62)...), 0, 0, false},
		// It has no valid ratio with int64 parts, also where it is 2^64 or 2^128 times another number.
		{values(least, most), 0, 0, false}, {values(most, least), 0, 0, false}, {values(least, 0), 0, 0, false}, {values(0, most), 0, 0, false}, {values(least, least, most, most), 0, 0, false}, {values(-1<<32, 1<<32), 0, 0, false}, {values(-1<<62, 1<<62), 0, 0, false}, {values(-1<<62, -1<<62, 1<<62, 1<<62), 0, 0, false}, {values(least, 0, 0, 0), 0, 0, false}, {values(same(8, 1<<62)...), 0, 1, true}, {values(append(same(8, 1<<62), same(8, -1<<62)...)...), 0, 0, false},
	} {
		if got, ok := Spread(c.items); got != (api.Ratio{Num: c.n, Den: c.d}) || ok != c.ok {
			t.Errorf("Spread(%v) = %v, %t, not %d/%d, %t", c.items, got, ok, c.n, c.d, c.ok)
		}
	}
}

func TestRankAndBelow(t *testing.T) {
	list := values(5, 1, 5, -2, 9, 5)
	for _, c := range []struct {
		items       []api.Item
		v           int64
		rank, below int64
	}{
		{examples(), 4, 2, 1}, {examples(), 1, 0, 0}, {examples(), 2, 1, 0}, {examples(), 3, 1, 1}, {examples(), 9, 3, 2}, {examples(), 10, 3, 3},
		{list, -3, 0, 0}, {list, -2, 1, 0}, {list, -1, 1, 1}, {list, 1, 2, 1}, {list, 4, 2, 2}, {list, 5, 5, 2}, {list, 6, 5, 5}, {list, 9, 6, 5}, {list, 10, 6, 6}, {list, least, 0, 0}, {list, most, 6, 6},
		{values(5, 5, 5), 5, 3, 0}, {values(5, 5, 5), 4, 0, 0}, {values(5, 5, 5), 6, 3, 3}, {nil, 0, 0, 0}, {nil, most, 0, 0}, {[]api.Item{}, least, 0, 0},
		{values(least), least, 1, 0}, {values(least), least + 1, 1, 1}, {values(most), most, 1, 0}, {values(most), most - 1, 0, 0}, {values(least, most), 0, 1, 1}, {values(least, most), most, 2, 1},
	} {
		if got := Rank(c.items, c.v); got != c.rank {
			t.Errorf("Rank(%v, %d) = %d, not %d", c.items, c.v, got, c.rank)
		}
		if got := Below(c.items, c.v); got != c.below {
			t.Errorf("Below(%v, %d) = %d, not %d", c.items, c.v, got, c.below)
		}
	}
}

func TestQuantile(t *testing.T) {
	list := values(50, 10, 40, 20, 30)
	for _, c := range []struct {
		items      []api.Item
		p, q, want int64
		ok         bool
	}{
		{examples(), 1, 2, 4, true}, {examples(), 1, 3, 2, true}, {examples(), 2, 3, 4, true}, {examples(), 34, 100, 4, true}, {examples(), 33, 100, 2, true}, {examples(), 67, 100, 9, true},
		// The least rank is 1, also for p = 0; p = q stands for the greatest value.
		{list, 0, 1, 10, true}, {list, 0, 7, 10, true}, {list, 0, most, 10, true}, {list, 1, 1, 50, true}, {list, 7, 7, 50, true}, {list, most, most, 50, true}, {values(-3), 0, 1, -3, true}, {values(-3), 1, 1, -3, true}, {values(-3), 1, 2, -3, true},
		// The rank is rounded up.
		{list, 1, 5, 10, true}, {list, 1, 4, 20, true}, {list, 2, 5, 20, true}, {list, 1, 2, 30, true}, {list, 3, 5, 30, true}, {list, 4, 5, 40, true}, {list, 79, 100, 40, true}, {list, 81, 100, 50, true}, {list, 1, 1000, 10, true}, {list, 999, 1000, 50, true},
		// The product of p and the number of items is not an int64, or would wrap around.
		{list, most - 1, most, 50, true}, {list, 1, most, 10, true}, {list, most / 5, most, 10, true}, {list, most/5 + 1, most, 20, true}, {list, most / 5 * 2, most, 20, true}, {list, most/5*4 + 4, most, 50, true}, {list, most / 5 * 4, most, 40, true}, {values(1, 2), 1 << 62, most, 2, true}, {values(1, 2), 1<<62 - 1, most, 1, true}, {values(1, 2, 3, 4), 1 << 62, most, 3, true}, {values(1, 2, 3, 4), 1 << 62, 1 << 62, 4, true}, {values(1, 2, 3, 4), 1 << 61, 1 << 62, 2, true},
		// Equal and extreme values.
		{values(5, 5, 5, 1), 1, 2, 5, true}, {values(5, 5, 5, 1), 1, 4, 1, true}, {values(most, least), 1, 2, least, true}, {values(most, least), 2, 3, most, true}, {values(0, most, least), 1, 2, 0, true}, {values(-1, -2, -3), 1, 3, -3, true},
		// There is none.
		{nil, 1, 2, 0, false}, {[]api.Item{}, 0, 1, 0, false}, {list, 2, 1, 0, false}, {list, -1, 1, 0, false}, {list, least, 1, 0, false}, {list, least, most, 0, false}, {list, most, most - 1, 0, false}, {list, most, 1, 0, false}, {list, 0, 0, 0, false}, {list, 1, 0, 0, false}, {list, 1, -1, 0, false}, {list, -1, -1, 0, false}, {list, -2, -1, 0, false}, {list, 0, least, 0, false}, {list, least, least, 0, false}, {nil, 0, 0, 0, false},
	} {
		if got, ok := Quantile(c.items, c.p, c.q); got != c.want || ok != c.ok {
			t.Errorf("Quantile(%v, %d, %d) = %d, %t, not %d, %t", c.items, c.p, c.q, got, ok, c.want, c.ok)
		}
	}
}

// fullPoly returns items with land 0 whose sum with the power 4 is 2^128 - 1: their weights are 2^96, 2^64 and 1.
func fullPoly() []api.Item {
	return []api.Item{it(0, most), it(0, most), it(0, 1), it(1<<16-1, 1<<32-1), it(1<<24-1, 1<<32-1)}
}

func TestPoly(t *testing.T) {
	for _, c := range []struct {
		items []api.Item
		land  int64
		p     int
		want  api.Wide
		ok    bool
	}{
		{examples(), 0, 1, api.Wide{Lo: 28}, true}, {examples(), 0, 0, api.Wide{Lo: 15}, true}, {examples(), 0, 2, api.Wide{Lo: 54}, true}, {examples(), 0, 3, api.Wide{Lo: 106}, true}, {examples(), 0, 4, api.Wide{Lo: 210}, true},
		{examples()[1:], 1, 4, api.Wide{Lo: 13}, true}, {[]api.Item{it(7, 5)}, 3, 2, api.Wide{Lo: 125}, true}, {[]api.Item{it(7, 5)}, 7, 3, api.Wide{Lo: 5}, true}, {[]api.Item{it(9, 1), it(7, 5), it(9, 2), it(8, 0)}, 7, 2, api.Wide{Lo: 32}, true},
		{nil, 0, 0, api.Wide{}, true}, {[]api.Item{}, last, 4, api.Wide{}, true}, {[]api.Item{it(last, 3)}, last, 4, api.Wide{Lo: 3}, true}, {[]api.Item{it(last, 0)}, 0, 4, api.Wide{}, true}, {[]api.Item{it(0, 0), it(5, 0)}, 0, 0, api.Wide{}, true},
		// The power 0 gives all items the weight 1.
		{[]api.Item{it(0, most), it(last, most)}, 0, 0, api.Wide{Lo: 1<<64 - 2}, true}, {[]api.Item{it(0, most), it(last, most), it(9, 2)}, 0, 0, api.Wide{Hi: 1}, true},
		// Sums that are just an api.Wide, and just none.
		{[]api.Item{it(1<<24-1, 1<<31)}, 0, 4, api.Wide{Hi: 1 << 63}, true}, {[]api.Item{it(1<<24-1, 1<<32-1)}, 0, 4, api.Wide{Hi: (1<<32 - 1) << 32}, true}, {[]api.Item{it(1<<24-1, 1<<32)}, 0, 4, api.Wide{}, false}, {[]api.Item{it(1<<24-1, 1<<31), it(1<<24-1, 1<<31)}, 0, 4, api.Wide{}, false}, {[]api.Item{it(last, most)}, 0, 4, api.Wide{}, false},
		{fullPoly(), 0, 4, api.Wide{Hi: 1<<64 - 1, Lo: 1<<64 - 1}, true}, {append(fullPoly(), it(0, 0)), 0, 4, api.Wide{Hi: 1<<64 - 1, Lo: 1<<64 - 1}, true}, {append(fullPoly(), it(last, 0)), 0, 4, api.Wide{Hi: 1<<64 - 1, Lo: 1<<64 - 1}, true}, {append(fullPoly(), it(0, 1)), 0, 4, api.Wide{}, false}, {append([]api.Item{it(0, 1)}, fullPoly()...), 0, 4, api.Wide{}, false}, {append(fullPoly(), it(3, 1)), 0, 4, api.Wide{}, false},
		// Lesser powers of great ticks.
		{[]api.Item{it(1<<24-1, 1<<55)}, 0, 3, api.Wide{Hi: 1 << 63}, true}, {[]api.Item{it(1<<24-1, 1<<56)}, 0, 3, api.Wide{}, false}, {[]api.Item{it(1<<24-1, most)}, 0, 2, api.Wide{Hi: 1<<47 - 1, Lo: 1<<64 - 1<<48}, true},
		// The power is out of range.
		{examples(), 0, 5, api.Wide{}, false}, {examples(), 0, -1, api.Wide{}, false}, {nil, 0, 5, api.Wide{}, false}, {nil, 0, -1, api.Wide{}, false}, {nil, 0, math.MaxInt, api.Wide{}, false}, {nil, 0, math.MinInt, api.Wide{}, false}, {[]api.Item{it(0, 1)}, 0, 1 << 32, api.Wide{}, false},
		// Land is no tick.
		{examples(), -1, 1, api.Wide{}, false}, {nil, -1, 1, api.Wide{}, false}, {nil, least, 1, api.Wide{}, false}, {nil, last + 1, 4, api.Wide{}, false}, {nil, most, 0, api.Wide{}, false}, {[]api.Item{it(last+1, 1)}, last + 1, 1, api.Wide{}, false}, {[]api.Item{it(-1, 1)}, -1, 1, api.Wide{}, false},
		// A tick is less than land, or no tick.
		{examples(), 1, 1, api.Wide{}, false}, {[]api.Item{it(4, 1)}, 5, 1, api.Wide{}, false}, {[]api.Item{it(6, 1), it(4, 0)}, 5, 0, api.Wide{}, false}, {[]api.Item{it(4, 0), it(6, 1)}, 5, 0, api.Wide{}, false}, {[]api.Item{it(-1, 1)}, 0, 0, api.Wide{}, false}, {[]api.Item{it(-1, 0)}, 0, 2, api.Wide{}, false}, {[]api.Item{it(least, 1)}, 0, 1, api.Wide{}, false}, {[]api.Item{it(last+1, 1)}, 0, 1, api.Wide{}, false}, {[]api.Item{it(last+1, 0)}, last, 0, api.Wide{}, false}, {[]api.Item{it(most, 0)}, 0, 0, api.Wide{}, false},
		// A value is negative.
		{[]api.Item{it(0, -1)}, 0, 1, api.Wide{}, false}, {[]api.Item{it(0, -1), it(0, 1)}, 0, 0, api.Wide{}, false}, {[]api.Item{it(0, 5), it(0, -1)}, 0, 0, api.Wide{}, false}, {[]api.Item{it(0, least)}, 0, 0, api.Wide{}, false},
	} {
		if got, ok := Poly(c.items, c.land, c.p); got != c.want || ok != c.ok {
			t.Errorf("Poly(%v, %d, %d) = %v, %t, not %v, %t", c.items, c.land, c.p, got, ok, c.want, c.ok)
		}
	}
}

// fullHalve returns items that at tick 63, with the age 64, add up to 2^128 - 1: their weights are 2^63 and 1.
func fullHalve() []api.Item {
	return []api.Item{it(0, most), it(63, most), it(63, most), it(63, most), it(63, most), it(63, 3)}
}

func TestHalve(t *testing.T) {
	full := api.Wide{Hi: 1<<64 - 1, Lo: 1<<64 - 1}
	for _, c := range []struct {
		items []api.Item
		now   int64
		a     int
		n     api.Wide
		ok    bool
	}{
		{examples(), 2, 3, api.Wide{Lo: 28}, true}, {examples(), 2, 2, api.Wide{Lo: 13}, true}, {examples(), 2, 1, api.Wide{}, true}, {examples(), 1, 1, api.Wide{Lo: 13}, true}, {examples(), 1, 2, api.Wide{Lo: 28}, true}, {examples(), 2, 4, api.Wide{Lo: 56}, true}, {examples(), 100, 64, api.Wide{}, true},
		{nil, 0, 1, api.Wide{}, true}, {[]api.Item{}, last, 64, api.Wide{}, true}, {[]api.Item{it(0, 0)}, 0, 64, api.Wide{}, true}, {[]api.Item{it(5, 1), it(0, 1)}, 5, 6, api.Wide{Lo: 33}, true}, {[]api.Item{it(0, 1), it(5, 1), it(5, 1)}, 5, 6, api.Wide{Lo: 65}, true}, {[]api.Item{it(last, 3), it(last-1, 4)}, last, 2, api.Wide{Lo: 10}, true},
		// An item that is just young enough, and one that is just too old.
		{[]api.Item{it(5, 7)}, 5, 1, api.Wide{Lo: 7}, true}, {[]api.Item{it(4, 7)}, 5, 1, api.Wide{}, true}, {[]api.Item{it(3, 7)}, 5, 3, api.Wide{Lo: 7}, true}, {[]api.Item{it(2, 7)}, 5, 3, api.Wide{}, true}, {[]api.Item{it(0, 7)}, 63, 64, api.Wide{Lo: 7}, true}, {[]api.Item{it(0, 7)}, 64, 64, api.Wide{}, true}, {[]api.Item{it(0, 7), it(1, 7)}, 64, 64, api.Wide{Lo: 7}, true}, {[]api.Item{it(0, most)}, last, 64, api.Wide{}, true}, {[]api.Item{it(last-63, 9), it(last-64, 9)}, last, 64, api.Wide{Lo: 9}, true},
		// Sums that are just an api.Wide, and just none.
		{[]api.Item{it(0, most)}, 0, 64, api.Wide{Hi: 1<<62 - 1, Lo: 1 << 63}, true}, {fullHalve(), 63, 64, full, true}, {append(fullHalve(), it(0, 0), it(63, 0)), 63, 64, full, true}, {append(fullHalve(), it(0, 1)), 63, 64, api.Wide{}, false}, {append([]api.Item{it(0, 1)}, fullHalve()...), 63, 64, api.Wide{}, false}, {append(fullHalve(), it(63, 1)), 63, 64, api.Wide{}, false}, {append(fullHalve(), it(30, 1)), 63, 64, api.Wide{}, false}, {slices.Repeat([]api.Item{it(0, most)}, 5), 0, 64, api.Wide{}, false}, {slices.Repeat([]api.Item{it(0, most)}, 5), 64, 64, api.Wide{}, true}, {slices.Repeat([]api.Item{it(0, most)}, 5), 63, 64, api.Wide{Hi: 2, Lo: 1<<63 - 5}, true},
		// Now is no tick.
		{nil, -1, 1, api.Wide{}, false}, {nil, least, 1, api.Wide{}, false}, {nil, last + 1, 1, api.Wide{}, false}, {nil, most, 64, api.Wide{}, false}, {[]api.Item{it(last+1, 1)}, last + 1, 5, api.Wide{}, false}, {[]api.Item{it(0, 1)}, last + 1, 5, api.Wide{}, false},
		// The age is out of range.
		{examples(), 2, 0, api.Wide{}, false}, {examples(), 2, 65, api.Wide{}, false}, {nil, 2, -1, api.Wide{}, false}, {nil, 2, 0, api.Wide{}, false}, {nil, 2, 65, api.Wide{}, false}, {nil, 2, math.MaxInt, api.Wide{}, false}, {nil, 2, math.MinInt, api.Wide{}, false}, {nil, 2, 1<<32 + 1, api.Wide{}, false},
		// A tick is negative or later than now.
		{examples(), 0, 1, api.Wide{}, false}, {[]api.Item{it(6, 1)}, 5, 3, api.Wide{}, false}, {[]api.Item{it(5, 1), it(6, 0)}, 5, 3, api.Wide{}, false}, {[]api.Item{it(6, 0), it(5, 1)}, 5, 3, api.Wide{}, false}, {[]api.Item{it(-1, 1)}, 5, 64, api.Wide{}, false}, {[]api.Item{it(-1, 1)}, 5, 1, api.Wide{}, false}, {[]api.Item{it(-1, 0)}, last, 1, api.Wide{}, false}, {[]api.Item{it(least, 1)}, 5, 1, api.Wide{}, false}, {[]api.Item{it(least, 1)}, last, 64, api.Wide{}, false}, {[]api.Item{it(most, 1)}, 5, 1, api.Wide{}, false}, {[]api.Item{it(most, 0)}, last, 64, api.Wide{}, false},
		// A value is negative, also in an item that is too old to count.
		{[]api.Item{it(5, -1)}, 5, 1, api.Wide{}, false}, {[]api.Item{it(5, 3), it(5, -1)}, 5, 1, api.Wide{}, false}, {[]api.Item{it(0, -1)}, 5, 1, api.Wide{}, false}, {[]api.Item{it(5, 3), it(0, -1)}, 5, 1, api.Wide{}, false}, {[]api.Item{it(0, -1), it(5, 3)}, 5, 5, api.Wide{}, false}, {[]api.Item{it(0, least)}, last, 64, api.Wide{}, false}, {[]api.Item{it(0, least)}, 0, 1, api.Wide{}, false},
	} {
		want := api.Fraction{}
		if c.ok {
			want = api.Fraction{Num: c.n, Den: api.Wide{Lo: 1 << (c.a - 1)}}
		}
		if got, ok := Halve(c.items, c.now, c.a); got != want || ok != c.ok {
			t.Errorf("Halve(%v, %d, %d) = %v, %t, not %v, %t", c.items, c.now, c.a, got, ok, want, c.ok)
		}
	}
}

// exactInt returns what a function returns for the exact integer n.
func exactInt(n *big.Int) (int64, bool) {
	if !n.IsInt64() {
		return 0, false
	}
	return n.Int64(), true
}

func exactWide(n *big.Int) (api.Wide, bool) {
	if n.BitLen() > 128 {
		return api.Wide{}, false
	}
	word := new(big.Int).SetUint64(1<<64 - 1)
	return api.Wide{Hi: new(big.Int).Rsh(n, 64).Uint64(), Lo: word.And(word, n).Uint64()}, true
}

// deviations returns the sum of the squared deviations from the mean, from the deviations themselves.
func deviations(items []api.Item) *big.Rat {
	mean, sum := new(big.Rat), new(big.Rat)
	if len(items) == 0 {
		return sum
	}
	for _, x := range items {
		mean.Add(mean, new(big.Rat).SetInt64(x.V))
	}
	mean.Quo(mean, new(big.Rat).SetInt64(int64(len(items))))
	for _, x := range items {
		d := new(big.Rat).Sub(new(big.Rat).SetInt64(x.V), mean)
		sum.Add(sum, d.Mul(d, d))
	}
	return sum
}

// nextValue returns a value of any magnitude, or one near base.
func nextValue(source *rand.Rand, base int64) int64 {
	if source.Intn(8) == 0 {
		return []int64{least, most, 0, -1, 1, least + 1, most - 1, 1 << 32, -1 << 32}[source.Intn(9)]
	}
	if source.Intn(2) == 0 {
		return int64(source.Uint64()) >> source.Intn(64)
	}
	return base + source.Int63n(1000)
}

// randomItems returns a list that is, one time in two, narrow: all its values are near each other, so that their spread fits.
func randomItems(source *rand.Rand) []api.Item {
	base, narrow := int64(source.Uint64())>>source.Intn(64), source.Intn(2) == 0
	reach := int64(1) << source.Intn(34)
	items := make([]api.Item, source.Intn(12))
	for i := range items {
		v := base + source.Int63n(reach)
		if !narrow {
			v = nextValue(source, base)
		}
		items[i] = it(int64(source.Uint64())>>source.Intn(64), v)
	}
	return items
}

func TestSumsAgainstExactNumbers(t *testing.T) {
	source := rand.New(rand.NewSource(8))
	seen := map[string]int{}
	note := func(name string, ok bool) {
		if !ok {
			name = "no " + name
		}
		seen[name]++
	}
	for range 40000 {
		items := randomItems(source)
		sum, squares := new(big.Int), new(big.Int)
		for _, x := range items {
			v := big.NewInt(x.V)
			sum.Add(sum, v)
			squares.Add(squares, v.Mul(v, v))
		}
		want, fits := exactInt(sum)
		note("sum", fits)
		if got, ok := Sum(items); got != want || ok != fits {
			t.Fatalf("Sum(%v) = %d, %t, not %d, %t", items, got, ok, want, fits)
		}
		want, fits = exactInt(squares)
		note("squares", fits)
		if got, ok := Squares(items); got != want || ok != fits {
			t.Fatalf("Squares(%v) = %d, %t, not %d, %t", items, got, ok, want, fits)
		}
		wantSpread, spread := api.Ratio{}, deviations(items)
		if fits = spread.Num().IsInt64(); fits {
			wantSpread = api.Ratio{Num: spread.Num().Int64(), Den: spread.Denom().Int64()}
		}
		note("spread", fits)
		if got, ok := Spread(items); got != wantSpread || ok != fits {
			t.Fatalf("Spread(%v) = %v, %t, not %v, %t", items, got, ok, wantSpread, fits)
		}
	}
	for _, name := range []string{"sum", "no sum", "squares", "no squares", "spread", "no spread"} {
		if seen[name] < 1000 {
			t.Errorf("%s is expected only %d times", name, seen[name])
		}
	}
}

// TestLongSums checks sums whose parts have more than 64 or 128 bits.
func TestLongSums(t *testing.T) {
	const n = 1 << 17
	low, high := values(same(n, least)...), values(same(n, most)...)
	both := slices.Concat(low, high, values(n, -1))
	if got, ok := Sum(both); got != -1 || !ok {
		t.Errorf("Sum = %d, %t", got, ok)
	}
	if got, ok := Sum(slices.Concat(high, low, values(n))); got != 0 || !ok {
		t.Errorf("Sum = %d, %t", got, ok)
	}
	for _, items := range [][]api.Item{low, high, both} {
		// The sum of the squares is at least 2^17 times (2^63 - 1)^2.
		if got, ok := Squares(items); got != 0 || ok {
			t.Errorf("Squares = %d, %t", got, ok)
		}
	}
	if got, ok := Sum(low); got != 0 || ok {
		t.Errorf("Sum = %d, %t", got, ok)
	}
	for _, items := range [][]api.Item{low, high} {
		if got, ok := Spread(items); got != (api.Ratio{Den: 1}) || !ok {
			t.Errorf("Spread of equal values = %v, %t", got, ok)
		}
	}
	if got, ok := Spread(both); got != (api.Ratio{}) || ok {
		t.Errorf("Spread = %v, %t", got, ok)
	}
	// One value differs by 1 from n - 1 others: the spread is (n - 1) / n.
	low[n/2].V++
	high[n/3].V--
	for _, items := range [][]api.Item{low, high} {
		if got, ok := Spread(items); got != (api.Ratio{Num: n - 1, Den: n}) || !ok {
			t.Errorf("Spread = %v, %t", got, ok)
		}
	}
}

func TestRanksAgainstSortedLists(t *testing.T) {
	source := rand.New(rand.NewSource(88))
	for range 4000 {
		items := randomItems(source)
		for i := range items {
			// Few values, so that many are equal.
			if source.Intn(2) == 0 {
				items[i].V = source.Int63n(7) - 3
			}
		}
		var sorted []int64
		for _, x := range items {
			place := 0
			for place < len(sorted) && sorted[place] < x.V {
				place++
			}
			sorted = slices.Insert(sorted, place, x.V)
		}
		for _, v := range append([]int64{-4, -3, 0, 2, 3, 4, least, most}, sorted...) {
			rank, below := 0, 0
			for below < len(sorted) && sorted[below] < v {
				below++
			}
			for rank < len(sorted) && sorted[rank] <= v {
				rank++
			}
			if a, b := Rank(items, v), Below(items, v); a != int64(rank) || b != int64(below) {
				t.Fatalf("Rank and Below(%v, %d) = %d, %d, not %d, %d", items, v, a, b, rank, below)
			}
		}
		if len(items) == 0 {
			continue
		}
		if v, ok := Least(items); v != sorted[0] || !ok {
			t.Fatalf("Least(%v) = %d, %t", items, v, ok)
		}
		if v, ok := Greatest(items); v != sorted[len(sorted)-1] || !ok {
			t.Fatalf("Greatest(%v) = %d, %t", items, v, ok)
		}
		compareQuantiles(t, source, items, sorted)
	}
}

// compareQuantiles tries small and great p and q. The rank is the least one from 1 on whose product with q is not less than p n.
func compareQuantiles(t *testing.T, source *rand.Rand, items []api.Item, sorted []int64) {
	for range 20 {
		q := 1 + int64(source.Uint64()>>1)>>source.Intn(63)
		if q < 1 {
			q = most
		}
		p := source.Int63n(q)
		if source.Intn(4) == 0 {
			p = q
		}
		n := new(big.Int).Mul(big.NewInt(p), big.NewInt(int64(len(items))))
		rank := int64(1)
		for new(big.Int).Mul(big.NewInt(rank), big.NewInt(q)).Cmp(n) < 0 {
			rank++
		}
		if got, ok := Quantile(items, p, q); got != sorted[rank-1] || !ok {
			t.Fatalf("Quantile(%v, %d, %d) = %d, %t, not %d", items, p, q, got, ok, sorted[rank-1])
		}
	}
}

// decayItems returns items with ticks from low to high and values that are not negative; one list in four has an item that is not such.
func decayItems(source *rand.Rand, low, high int64) []api.Item {
	items := make([]api.Item, source.Intn(9))
	for i := range items {
		items[i] = it(low+source.Int63n(high-low+1), int64(source.Uint64()>>1)>>source.Intn(63))
	}
	if len(items) > 0 && source.Intn(4) == 0 {
		x := &items[source.Intn(len(items))]
		x.T = []int64{low - 1, low, high, high + 1, -1, 0, last, last + 1, least, most}[source.Intn(10)]
		x.V = []int64{-1, 0, 1, least, most}[source.Intn(5)]
	}
	return items
}

func TestPolyAgainstExactNumbers(t *testing.T) {
	source := rand.New(rand.NewSource(9))
	seen := map[bool]int{}
	for range 30000 {
		land, p := source.Int63n(last+1)>>source.Intn(25), source.Intn(7)-1
		items := decayItems(source, land, last)
		sum, fits := new(big.Int), p >= 0 && p <= 4
		for _, x := range items {
			fits = fits && x.T >= land && tick(x.T) && x.V >= 0
			term := big.NewInt(x.V)
			for range p {
				term.Mul(term, big.NewInt(x.T-land+1))
			}
			sum.Add(sum, term)
		}
		want := api.Wide{}
		if fits {
			want, fits = exactWide(sum)
		}
		seen[fits]++
		if got, ok := Poly(items, land, p); got != want || ok != fits {
			t.Fatalf("Poly(%v, %d, %d) = %v, %t, not %v, %t", items, land, p, got, ok, want, fits)
		}
	}
	if seen[true] < 3000 || seen[false] < 3000 {
		t.Errorf("the results are too much alike: %v", seen)
	}
}

func TestHalveAgainstExactNumbers(t *testing.T) {
	source := rand.New(rand.NewSource(10))
	seen := map[bool]int{}
	for range 30000 {
		now, a := source.Int63n(last+1)>>source.Intn(25), 1+source.Intn(64)
		if source.Intn(3) == 0 {
			a = []int{-1, 0, 1, 64, 65, 66, 64, 63}[source.Intn(8)]
		}
		items := decayItems(source, max(0, now-source.Int63n(100)), now)
		sum, fits := new(big.Int), a >= 1 && a <= 64
		for _, x := range items {
			fits = fits && x.T >= 0 && x.T <= now && x.V >= 0
			if fits && now-x.T < int64(a) {
				sum.Add(sum, new(big.Int).Lsh(big.NewInt(x.V), uint(int64(a)-1-(now-x.T))))
			}
		}
		want := api.Fraction{}
		if fits {
			want.Num, fits = exactWide(sum)
		}
		if fits {
			want.Den = api.Wide{Lo: 1 << (a - 1)}
		}
		seen[fits]++
		if got, ok := Halve(items, now, a); got != want || ok != fits {
			t.Fatalf("Halve(%v, %d, %d) = %v, %t, not %v, %t", items, now, a, got, ok, want, fits)
		}
	}
	if seen[true] < 3000 || seen[false] < 3000 {
		t.Errorf("the results are too much alike: %v", seen)
	}
}

// results are those of all functions that do not look at the ticks.
type results struct {
	count, rank, below                int64
	sum, squares, low, high, quantile int64
	spread                            api.Ratio
	flags                             [6]bool
}

func allOf(items []api.Item, v, p, q int64) results {
	r := results{count: Count(items), rank: Rank(items, v), below: Below(items, v)}
	r.sum, r.flags[0] = Sum(items)
	r.squares, r.flags[1] = Squares(items)
	r.low, r.flags[2] = Least(items)
	r.high, r.flags[3] = Greatest(items)
	r.quantile, r.flags[4] = Quantile(items, p, q)
	r.spread, r.flags[5] = Spread(items)
	return r
}

func shuffled(source *rand.Rand, items []api.Item) []api.Item {
	list := slices.Clone(items)
	source.Shuffle(len(list), func(i, j int) { list[i], list[j] = list[j], list[i] })
	return list
}

// TestOrder checks that the order of the items does not matter, and their ticks only where the chapter says so.
func TestOrder(t *testing.T) {
	source := rand.New(rand.NewSource(11))
	for range 3000 {
		items, v, q := randomItems(source), source.Int63n(9)-4, 1+source.Int63n(9)
		p := source.Int63n(q + 1)
		list := shuffled(source, items)
		for i := range list {
			list[i].T = int64(source.Uint64()) >> source.Intn(64)
		}
		if a, b := allOf(items, v, p, q), allOf(list, v, p, q); a != b {
			t.Fatalf("the results of %v and %v are %v and %v", items, list, a, b)
		}
	}
	for range 3000 {
		now := source.Int63n(200)
		items := decayItems(source, 0, now)
		list := shuffled(source, items)
		power, age := source.Intn(5), 1+source.Intn(64)
		a, ok := Poly(items, 0, power)
		if b, fits := Poly(list, 0, power); a != b || ok != fits {
			t.Fatalf("Poly of %v and %v is %v, %t and %v, %t", items, list, a, ok, b, fits)
		}
		f, ok := Halve(items, now, age)
		if g, fits := Halve(list, now, age); f != g || ok != fits {
			t.Fatalf("Halve of %v and %v is %v, %t and %v, %t", items, list, f, ok, g, fits)
		}
	}
	// Whatever place the items have that make the sum just too great, or that are not valid.
	for range 200 {
		for _, x := range []api.Item{it(0, 1), it(0, -1), it(-1, 0), it(last+1, 0)} {
			if a, ok := Poly(shuffled(source, append(fullPoly(), x)), 0, 4); ok || a != (api.Wide{}) {
				t.Fatalf("Poly = %v, %t", a, ok)
			}
			if f, ok := Halve(shuffled(source, append(fullHalve(), x)), 63, 64); ok || f != (api.Fraction{}) {
				t.Fatalf("Halve = %v, %t", f, ok)
			}
		}
		if _, ok := Poly(shuffled(source, fullPoly()), 0, 4); !ok {
			t.Fatal("Poly of the greatest sum is false")
		}
		if _, ok := Halve(shuffled(source, fullHalve()), 63, 64); !ok {
			t.Fatal("Halve of the greatest sum is false")
		}
		if n, ok := Sum(shuffled(source, values(most, most, 1, least, least, 1))); n != 0 || !ok {
			t.Fatalf("Sum = %d, %t", n, ok)
		}
	}
}

// TestArguments checks that the items, and the memory before and behind them, stay as they are, and that this memory does not matter.
func TestArguments(t *testing.T) {
	calls := []func(items []api.Item) any{
		func(items []api.Item) any { return Valid(items, 5) },
		func(items []api.Item) any { return len(Live(items, 5, 3)) },
		func(items []api.Item) any { return allOf(items, 2, 1, 2) },
		func(items []api.Item) any { return allOf(items, 2, 2, 1) },
		func(items []api.Item) any { a, _ := Poly(items, 0, 3); return a },
		func(items []api.Item) any { f, _ := Halve(items, 5, 4); return f },
	}
	for _, items := range [][]api.Item{
		nil, examples(), {it(5, 9), it(3, 7), it(4, 1), it(0, 3)}, {it(0, 50), it(1, 10), it(3, 40), it(5, 20), it(5, 30)}, {it(3, 5), it(4, 4), it(5, 3)}, {it(0, -1), it(6, 4)}, {it(-1, 3), it(2, 2)}, {it(5, most), it(5, least), it(5, most)},
	} {
		for i, call := range calls {
			memory := slices.Concat([]api.Item{it(9, 1), it(0, -4)}, items, []api.Item{it(5, 2), it(1, -9), it(7, 7)})
			before := slices.Clone(memory)
			got := call(memory[2 : 2+len(items)])
			if !slices.Equal(memory, before) {
				t.Errorf("call %d with %v changed its argument, or what lies beside it: %v", i, items, memory)
			}
			if alone := call(slices.Clone(items)); alone != got {
				t.Errorf("call %d with %v returns %v and %v", i, items, got, alone)
			}
		}
	}
}
