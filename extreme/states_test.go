package extreme

import (
	"math"
	"slices"

	"windowpane/api"
)

// it returns items: ticks with the values behind them.
func it(numbers ...int64) []api.Item {
	var list []api.Item
	for i := 0; i+1 < len(numbers); i += 2 {
		list = append(list, api.Item{T: numbers[i], V: numbers[i+1]})
	}
	return list
}

// state returns the deque for the greatest value with these items.
func state(w int64, size int, now int64, numbers ...int64) api.Extreme {
	return api.Extreme{Max: true, W: w, Cap: size, Now: now, Items: it(numbers...)}
}

// with returns the deque with other items.
func with(x api.Extreme, items ...api.Item) api.Extreme {
	x.Items = items
	return x
}

// same reports whether two states are equal; a nil list and an empty one are equivalent.
func same(a, b api.Extreme) bool {
	return a.Max == b.Max && a.W == b.W && a.Cap == b.Cap && a.Now == b.Now && slices.Equal(a.Items, b.Items)
}

// copied returns the state with a list of its own.
func copied(x api.Extreme) api.Extreme {
	x.Items = slices.Clone(x.Items)
	return x
}

// opposite returns the number with the other sign; the least one has none.
func opposite(v int64) int64 {
	if v == least {
		return most
	}
	return -v
}

// mirrored returns the state for the other end of the values; the zero state stays as it is.
func mirrored(x api.Extreme) api.Extreme {
	if same(x, api.Extreme{}) {
		return x
	}
	x = copied(x)
	x.Max = !x.Max
	for i := range x.Items {
		x.Items[i].V = opposite(x.Items[i].V)
	}
	return x
}

// bothWays returns the states and what they are for the other end of the values.
func bothWays(list []api.Extreme) []api.Extreme {
	for _, x := range slices.Clone(list) {
		list = append(list, mirrored(x))
	}
	return list
}

// slope returns n items at the ticks up to now, with values that descend by 1.
func slope(n int, now, first int64) []api.Item {
	list := make([]api.Item, n)
	for i := range list {
		list[i] = api.Item{T: now - int64(n-1-i), V: first - int64(i)}
	}
	return list
}

// mostItems returns how many items a deque of these sizes can have at a tick.
func mostItems(w int64, size int, now int64) int {
	return int(min(w, int64(size), now+1, 2*highest+1))
}

func windows() []int64 { return []int64{1, 2, 3, 5, 100, longest - 1, longest} }
func sizes() []int     { return []int{1, 2, 3, 9, fullest - 1, fullest} }
func clocks() []int64 {
	return []int64{0, 1, 2, 9, longest - 1, longest, last / 2, last - 1, last}
}

// validStates returns states at the limits.
func validStates() []api.Extreme {
	var list []api.Extreme
	for _, w := range windows() {
		for _, n := range sizes() {
			for _, now := range clocks() {
				x := state(w, n, now)
				first := max(0, now-w+1)
				list = append(list, x, state(w, n, now, now, 5), state(w, n, now, now, highest), state(w, n, now, now, -highest), state(w, n, now, first, 5))
				if first < now && n > 1 {
					list = append(list, state(w, n, now, first, highest, now, -highest), state(w, n, now, first, 1, now, 0), state(w, n, now, first, highest, now, highest-1), state(w, n, now, now-1, 3, now, -9))
				}
				if k := mostItems(w, n, now); k < 200 {
					list = append(list, with(x, slope(k, now, highest)...), with(x, slope(k, first+int64(k)-1, 7)...), with(x, slope(k, now, -highest+int64(k)-1)...))
				}
			}
		}
	}
	return bothWays(list)
}

// steep returns n items at all live ticks.
func steep(n int) api.Extreme { return with(state(int64(n), n, 1000), slope(n, 1000, 50)...) }

// put returns the state with another item at the place i.
func put(x api.Extreme, i int, t, v int64) api.Extreme {
	x = copied(x)
	x.Items[i] = api.Item{T: t, V: v}
	return x
}

// swapped returns the state with the ticks, or the values, of two neighbours in the other order.
func swapped(x api.Extreme, i int, ticks bool) api.Extreme {
	a, b := x.Items[i], x.Items[i+1]
	if ticks {
		return put(put(x, i, b.T, a.V), i+1, a.T, b.V)
	}
	return put(put(x, i, a.T, b.V), i+1, b.T, a.V)
}

// wrongSizes adds states that break one of the conditions 1 to 4 alone.
func wrongSizes(list map[int][]api.Extreme) {
	for _, n := range append(extremes(), 0, -1, -2, -longest) {
		if !window(n) {
			list[1] = append(list[1], state(n, 3, 5), state(n, 1, 0), state(n, fullest, last))
		}
		if n != 0 && !tick(n) {
			list[3] = append(list[3], state(3, 2, n), state(1, 1, n), state(longest, fullest, n))
		}
		if n == 0 || n > fullest {
			list[2] = append(list[2], state(3, int(n), 5), state(1, int(n), 0), state(longest, int(n), last))
		}
	}
	for _, w := range []int64{longest + 1, longest + 2, last, 1 << 32, most} {
		list[1] = append(list[1], state(w, 2, 5), state(w, 2, 5, 5, 1), state(w, 2, 5, 0, 4, 5, 1), state(w, 1, last, last, 1))
	}
	for _, n := range []int{fullest + 1, fullest + 2, 1 << 31, math.MaxInt} {
		list[2] = append(list[2], state(3, n, 5), state(3, n, 5, 3, 4, 5, 1), state(longest, n, last, last, 1))
	}
	for _, now := range []int64{last + 1, last + 2} {
		list[3] = append(list[3], state(3, 2, now), state(3, 2, now, last, 1), state(longest, 2, now, last-9, 4, last, 1))
	}
	for _, n := range []int{1, 2, 3, 8, 100, 2 * highest} {
		for k := n + 1; k <= min(n+3, 2*highest+1); k++ {
			list[4] = append(list[4], with(state(longest, n, last), slope(k, last, highest)...), with(state(int64(k), n, int64(k)), slope(k, int64(k), highest)...))
		}
	}
}

// wrongItems adds states that break one of the conditions 5 to 8 alone, at each place.
func wrongItems(list map[int][]api.Extreme) {
	for _, w := range windows() {
		list[5] = append(list[5], state(w, 9, w, 0, 1), state(w, 9, last, last-w, 1), state(w, 9, last, last-w, 1, last, 0), state(w, 9, 2*w, w, 5, 2*w, 0), state(w, 9, 0, -1, 1), state(w, 9, 0, -1, 1, 0, 0), state(w, 9, 5, 6, 1), state(w, 9, 5, 5, 2, 6, 1), state(w, 9, last, last+1, 1), state(w, 9, last, last, 1, last+1, 0), state(w, 9, last-1, last, 0), state(w, 9, 5, least, 1), state(w, 9, 5, most, 1), state(w, 9, 5, least, 3, 5, 1), state(w, 9, 5, 5, 3, most, 1), state(w, 9, 5, least, 3, 5, 2, most, 1))
	}
	for _, v := range append(extremes(), highest+1, highest+2, 2*highest, -highest-1, -highest-2) {
		if value(v) {
			continue
		}
		list[6] = append(list[6], state(3, 9, 5, 5, v), state(3, 9, 5, 3, v), state(1, 1, 0, 0, v))
		if v > 0 {
			list[6] = append(list[6], put(steep(2), 0, 999, v), put(steep(7), 0, 994, v), state(3, 9, 5, 3, v, 4, highest, 5, -highest))
		} else {
			list[6] = append(list[6], put(steep(2), 1, 1000, v), put(steep(7), 6, 1000, v), state(3, 9, 5, 3, highest, 4, -highest, 5, v))
		}
	}
	for n := 2; n <= 9; n++ {
		x := steep(n)
		for i := range n - 1 {
			a, b := x.Items[i], x.Items[i+1]
			list[7] = append(list[7], put(x, i, b.T, a.V), put(x, i+1, a.T, b.V), swapped(x, i, true))
			list[8] = append(list[8], put(x, i, a.T, b.V), put(x, i+1, b.T, a.V), swapped(x, i, false))
		}
		list[7] = append(list[7], put(x, n-1, x.Items[0].T, x.Items[n-1].V), put(x, 0, 1000, x.Items[0].V))
		list[8] = append(list[8], put(x, n-1, 1000, highest), put(x, 0, x.Items[0].T, -highest))
	}
}

// oneBroken returns, for each condition, states that break it alone.
func oneBroken() map[int][]api.Extreme {
	list := map[int][]api.Extreme{}
	wrongSizes(list)
	wrongItems(list)
	for condition, states := range list {
		list[condition] = bothWays(states)
	}
	return list
}

// hugeStates returns states with numbers near the least and the greatest int64, most of which break several conditions.
func hugeStates() []api.Extreme {
	var list []api.Extreme
	for _, n := range extremes() {
		for _, m := range []int64{least, -1, 0, 1, 5, last, most} {
			list = append(list, state(n, int(m), n, n, m), state(n, int(n), m, m, n), state(m, int(n), n, m, m), state(9, 9, n, n, m), state(9, 9, m, n, n, m, m), state(longest, fullest, m, m, n, n, m), state(n, 9, m, m, 5), state(n, 9, 9, 8, m, 9, n), state(m, 9, n, n, 5, n, 5))
		}
	}
	return slices.DeleteFunc(bothWays(list), valid)
}

// invalidStates returns states that are not valid.
func invalidStates() []api.Extreme {
	list := append(hugeStates(), api.Extreme{}, api.Extreme{Max: true}, state(3, -1, 5), state(3, -1, 5, 5, 1), state(3, math.MinInt, 5), state(0, 9, 5, 5, 1), state(3, 0, 5, 5, 1), state(3, 9, -1, -1, 1), state(3, 2, 5, 3, 9, 4, 8, 5, 7), state(3, fullest+1, 5, 6, 1), state(3, fullest-1, 5, 5, 1, 5, 1))
	for condition := 1; condition <= 8; condition++ {
		for i, x := range oneBroken()[condition] {
			if len(x.Items) < 200 || i%7 == 0 {
				list = append(list, x)
			}
		}
	}
	return list
}

// extremes returns numbers that are no ticks, no values and no sizes.
func extremes() []int64 {
	return []int64{least, least + 1, least + highest, least + last, least + longest, -1 << 62, -1<<32 - 1, -1 << 32, -1<<32 + 1, -1 << 31, -last - 1, 1<<31 - 1, 1 << 31, 1 << 32, 1<<32 + 1, 1<<32 + 5, 1 << 62, most - last, most - longest, most - highest, most - 1, most}
}

// edges returns the numbers around all limits.
func edges() []int64 {
	list := extremes()
	for d := int64(-2); d <= 2; d++ {
		list = append(list, d, highest+d, -highest+d, fullest+d, longest+d, last-longest+d, last/2+d, last+d)
	}
	return list
}
