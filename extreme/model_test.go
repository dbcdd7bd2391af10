package extreme

import (
	"cmp"
	"math"
	"slices"

	"windowpane/api"
)

// This file says what chapter 17 requires: word by word, by looking at every pair of items.

const (
	least   = math.MinInt64
	most    = math.MaxInt64
	last    = 1 << 24 // the last tick
	longest = 1 << 20 // the longest window
	fullest = 1 << 16 // the greatest capacity
	highest = 4096    // the greatest value
)

// window, size, tick and value say which numbers are valid.
func window(w int64) bool { return w > 0 && w < 1048577 }
func size(n int) bool     { return n > 0 && n < 65537 }
func tick(n int64) bool   { return n > -1 && n < 16777217 }
func value(v int64) bool  { return v > -4097 && v < 4097 }

// alive reports whether a tick is in the window.
func alive(t, now, w int64) bool {
	// The age fits into 64 bits without a sign, whatever the numbers are.
	return tick(t) && t <= now && w > 0 && uint64(now)-uint64(t) < uint64(w)
}

// rules reports whether x rules out y.
func rules(max bool, x, y api.Item) bool {
	if x.T < y.T {
		return false
	}
	if max {
		return !(x.V < y.V)
	}
	return !(x.V > y.V)
}

// broken returns the conditions that a state breaks, by their order in the chapter.
func broken(x api.Extreme) []int {
	living, values, ticks, order := true, true, true, true
	for i, item := range x.Items {
		living = living && alive(item.T, x.Now, x.W)
		values = values && value(item.V)
		if i == 0 {
			continue
		}
		before := x.Items[i-1]
		ticks = ticks && before.T < item.T
		order = order && (x.Max && before.V > item.V || !x.Max && before.V < item.V)
	}
	var wrong []int
	for i, holds := range []bool{window(x.W), size(x.Cap), tick(x.Now), len(x.Items) <= x.Cap, living, values, ticks, order} {
		if !holds {
			wrong = append(wrong, i+1)
		}
	}
	return wrong
}

func valid(x api.Extreme) bool { return len(broken(x)) == 0 }

// code returns the error that stands for an invalid state, if it is one.
func code(ok bool) api.Errno {
	if ok {
		return api.OK
	}
	return api.ErrState
}

// living returns the items that are live.
func living(items []api.Item, now, w int64) []api.Item {
	var list []api.Item
	for _, item := range items {
		if alive(item.T, now, w) {
			list = append(list, item)
		}
	}
	return list
}

// unruled returns the items that no other one rules out, by their ticks; of several equal ones, one.
func unruled(max bool, items []api.Item) []api.Item {
	var list []api.Item
	for i, y := range items {
		out := false
		for j, x := range items {
			out = out || i != j && rules(max, x, y) && (x != y || j < i)
		}
		if !out {
			list = append(list, y)
		}
	}
	slices.SortFunc(list, func(x, y api.Item) int { return cmp.Compare(x.T, y.T) })
	return list
}

// later is what Advance returns.
func later(x api.Extreme, now int64) (api.Extreme, api.Errno) {
	if !valid(x) {
		return api.Extreme{}, api.ErrState
	}
	if now < x.Now || now > last {
		return api.Extreme{}, api.ErrTime
	}
	return api.Extreme{Max: x.Max, W: x.W, Cap: x.Cap, Now: now, Items: living(x.Items, now, x.W)}, api.OK
}

// included is what Add returns.
func included(x api.Extreme, v int64) (api.Extreme, api.Errno) {
	if !valid(x) {
		return api.Extreme{}, api.ErrState
	}
	if !value(v) {
		return api.Extreme{}, api.ErrRange
	}
	newest := it(x.Now, v)
	items := slices.Clone(x.Items)
	for len(items) > 0 && rules(x.Max, newest[0], items[len(items)-1]) {
		items = items[:len(items)-1]
	}
	if len(items) == 0 || items[len(items)-1].T != x.Now {
		if len(items) == x.Cap {
			return api.Extreme{}, api.ErrFull
		}
		items = append(items, newest...)
	}
	return with(x, items...), api.OK
}

// asked is what Ask returns.
func asked(x api.Extreme) (int64, api.Errno) {
	if !valid(x) {
		return 0, api.ErrState
	}
	if len(x.Items) == 0 {
		return 0, api.ErrEmpty
	}
	best := x.Items[0].V
	for _, item := range x.Items {
		if x.Max && item.V > best || !x.Max && item.V < best {
			best = item.V
		}
	}
	return best, api.OK
}

// joined is what Merge returns.
func joined(a, b api.Extreme) (api.Extreme, api.Errno) {
	if !valid(a) || !valid(b) {
		return api.Extreme{}, api.ErrState
	}
	if a.Max != b.Max || a.W != b.W || a.Now != b.Now {
		return api.Extreme{}, api.ErrArg
	}
	items := unruled(a.Max, slices.Concat(a.Items, b.Items))
	if len(items) > a.Cap && len(items) > b.Cap {
		return api.Extreme{}, api.ErrFull
	}
	both := with(a, items...)
	if b.Cap > a.Cap {
		both.Cap = b.Cap
	}
	return both, api.OK
}
