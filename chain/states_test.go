package chain

import (
	"math"
	"slices"

	"windowpane/api"
)

// to returns links: numbers of items with the values behind them.
func to(numbers ...int64) []api.Link {
	var list []api.Link
	for i := 0; i+1 < len(numbers); i += 2 {
		list = append(list, api.Link{I: numbers[i], V: numbers[i+1]})
	}
	return list
}

// state returns the sample with these links.
func state(w int64, size int, i, next int64, numbers ...int64) api.Chain {
	return api.Chain{W: w, Cap: size, I: i, Next: next, Links: to(numbers...)}
}

// with returns the sample with another successor of the last link, and other links.
func with(x api.Chain, next int64, links ...api.Link) api.Chain {
	x.Next, x.Links = next, links
	return x
}

// same reports whether two states are equal; a nil list and an empty one are equivalent.
func same(a, b api.Chain) bool {
	return a.W == b.W && a.Cap == b.Cap && a.I == b.I && a.Next == b.Next && slices.Equal(a.Links, b.Links)
}

// copied returns the state with a list of its own.
func copied(x api.Chain) api.Chain {
	x.Links = slices.Clone(x.Links)
	return x
}

// row returns n links with neighbouring numbers from the first one on, and different values.
func row(n int, first int64) []api.Link {
	list := make([]api.Link, n)
	for i := range list {
		list[i] = api.Link{I: first + int64(i), V: int64(7*i%100) - 50}
	}
	return list
}

// spaced returns n links with numbers from the first to the last one, at about even distances. N is at least 2.
func spaced(n int, first, last int64) []api.Link {
	list := row(n, first)
	for i := range list {
		list[i].I = first + (last-first)*int64(i)/int64(n-1)
	}
	return list
}

func windows() []int64 { return []int64{1, 2, 3, 5, 100, longest - 1, longest} }
func sizes() []int     { return []int{1, 2, 3, 9, fullest - 1, fullest} }
func counts() []int64 {
	return []int64{1, 2, 3, 5, 9, 100, longest - 1, longest, longest + 1, total / 2, total - 1, total}
}

// validStates returns states at the limits.
func validStates() []api.Chain {
	var list []api.Chain
	for _, w := range windows() {
		for _, n := range sizes() {
			list = append(list, state(w, n, 0, 0))
			for _, i := range counts() {
				list = append(list, linkedStates(state(w, n, i, 0))...)
			}
		}
	}
	return list
}

// linkedStates returns states with the window, capacity and number of items of x.
func linkedStates(x api.Chain) []api.Chain {
	first := max(1, x.I-x.W+1)
	rows := [][]api.Link{to(first, highest), to(x.I, -highest), to(x.I, 7), to(first+(x.I-first)/2, 0)}
	if n := int(min(int64(x.Cap), x.I-first+1)); n > 1 {
		rows = append(rows, to(first, highest, x.I, -highest), to(first, 1, first+1, 1), to(x.I-1, -highest, x.I, highest), row(n, first), row(n, x.I-int64(n)+1), spaced(n, first, x.I))
	}
	var list []api.Chain
	for _, links := range rows {
		behind := links[len(links)-1].I + x.W
		for _, next := range []int64{x.I + 1, x.I + 2, x.I + (behind-x.I)/2, behind - 1, behind} {
			if x.I < next && next <= behind {
				list = append(list, with(x, next, slices.Clone(links)...))
			}
		}
	}
	return list
}

// put returns the state with another number and value at the place k.
func put(x api.Chain, k int, i, v int64) api.Chain {
	x = copied(x)
	x.Links[k] = api.Link{I: i, V: v}
	return x
}

// full returns a state whose links are all n items of its window.
func full(n int) api.Chain {
	return with(state(int64(n), n, 1000, 0), 1001, row(n, 1001-int64(n))...)
}

// wrongSizes adds states that break one of the conditions 1 to 4 alone.
func wrongSizes(list map[int][]api.Chain) {
	for _, n := range append(extremes(), 0, -1, -2, -longest, longest+1, longest+2) {
		if !window(n) {
			list[1] = append(list[1], state(n, 3, 0, 0), state(n, 1, 0, 0), state(n, fullest, 0, 0))
		}
		if n > longest {
			list[1] = append(list[1], state(n, 3, 5, 6, 5, 1), state(n, 1, total, total+1, total, 1), state(n, 2, 5, 6, 1, 4, 5, 1))
		}
		if n == 0 || n > fullest {
			list[2] = append(list[2], state(3, int(n), 0, 0), state(1, int(n), 0, 0), state(longest, int(n), 0, 0))
		}
	}
	for _, n := range []int{fullest + 1, fullest + 2, 1 << 31, math.MaxInt} {
		list[2] = append(list[2], state(3, n, 0, 0), state(3, n, 5, 6, 3, 4, 5, 1), state(longest, n, total, total+1, total, 1), with(state(100, n, 70, 0), 71, row(fullest+1, 3)...))
	}
	for _, i := range []int64{total + 1, total + 2, total + longest, 1 << 62, most - longest - 1, most - 1} {
		list[3] = append(list[3], state(3, 2, i, i+1, i, 5), state(3, 2, i, i+1, i-2, 5), state(longest, 9, i, i+1, i-9, 4, i, 1), state(1, 1, i, i+1, i, 0))
	}
	for n := 1; n <= fullest; n++ {
		for k := n + 1; k <= n+3; k++ {
			x := full(k)
			x.Cap = n
			list[4] = append(list[4], x, with(state(longest, n, total, 0), total+longest, row(k, total-int64(k)+1)...), with(state(1000, n, 900, 0), 901, spaced(k, 1, 900)...))
		}
	}
}

// wrongStarts adds states that break one of the conditions 6 to 8 alone: I or Next does not suit whether there are links.
func wrongStarts(list map[int][]api.Chain) {
	for _, n := range append(edges(), 1, 2, 3, 4) {
		list[6] = append(list[6], state(3, 2, 0, 0, n, 5), state(longest, fullest, 0, 0, n, 5), state(1, 1, 0, 0, n, 0), state(3, 2, 0, 0, 1, 5, n, 5))
		if n != 0 {
			list[7] = append(list[7], state(3, 2, 0, n), state(1, 1, 0, n), state(longest, fullest, 0, n))
		}
		if n > 0 && n <= total {
			list[8] = append(list[8], state(3, 2, n, n+1), state(1, 1, n, n+1), state(longest, fullest, n, n+longest), state(3, 2, n, n+3))
		}
	}
}

// wrongLinks adds states that break one of the conditions 5, 9 and 11 to 13 alone.
func wrongLinks(list map[int][]api.Chain) {
	for _, v := range append(extremes(), highest+1, highest+2, 2*highest, -highest-1, -highest-2) {
		list[5] = append(list[5], state(3, 2, 5, 6, 5, v), state(3, 2, 5, 6, 3, v), state(1, 1, 1, 2, 1, v), state(3, 2, 5, 6, 3, 0, 5, v), state(3, 2, 5, 6, 3, v, 5, 0))
		for n := 1; n <= fullest; n += 7 {
			x := full(n)
			list[5] = append(list[5], put(x, 0, x.Links[0].I, v), put(x, n/2, x.Links[n/2].I, v), put(x, n-1, 1000, v))
		}
	}
	for n := 2; n <= 9; n++ {
		x := full(n)
		for k := range n - 1 {
			a, b := x.Links[k].I, x.Links[k+1].I
			list[9] = append(list[9], put(x, k, b, 0), put(x, k+1, a, 0), put(put(x, k, b, 0), k+1, a, 0))
		}
		list[9] = append(list[9], put(x, n-1, x.Links[0].I, 0), put(x, 0, 1000, 0))
	}
	for _, w := range windows() {
		for _, i := range []int64{w + 1, w + 2, w + 500, total - 1, total} {
			// The last of these has links that are exactly w apart.
			list[11] = append(list[11], state(w, 9, i, i+1, i-w, 5, i, 5), state(w, 9, i, i+1, i-w, 5, i-w+1, 5))
			if w > 1 && i > w+1 {
				list[11] = append(list[11], state(w, 9, i, i+1, i-w-1, 5, i-1, 5), state(w, 9, i, i+1, i-w-1, 5, i-1, 5, i, 5))
			}
		}
		for _, i := range []int64{1, 2, 50, w - 1} {
			if 0 < i && i < w {
				list[12] = append(list[12], state(w, 9, i, i+1, 0, 5), state(w, 9, i, i+1, 0, 5, i, 5))
			}
			if i > 0 && i+1 < w {
				list[12] = append(list[12], state(w, 9, i, i+1, i-w+1, 5, i, 5), state(w, 9, i, i+1, -1, 5, i, 5))
			}
		}
		for _, i := range counts() {
			first := max(1, i-w+1)
			for _, last := range []int64{i + 1, i + 2, i + w, most - longest, most} {
				list[13] = append(list[13], state(w, 9, i, i+1, last, 5), state(w, 9, i, last, last, 5))
				if within(last, first, w) {
					list[13] = append(list[13], state(w, 9, i, i+1, first, 5, last, 5))
				}
			}
		}
	}
}

// wrongSuccessors adds states that break one of the conditions 14 and 15 alone.
func wrongSuccessors(list map[int][]api.Chain) {
	for _, x := range validStates() {
		if x.I == 0 || x.Cap > 9 {
			continue
		}
		for _, next := range append(extremes(), x.I, x.I-1, x.Links[0].I, 0, -1) {
			if next <= x.I {
				list[14] = append(list[14], with(x, next, x.Links...))
			}
		}
		behind := x.Links[len(x.Links)-1].I + x.W
		for _, next := range append(extremes(), behind+1, behind+2, x.I+2*x.W, total+longest+1) {
			if next > behind {
				list[15] = append(list[15], with(x, next, x.Links...))
			}
		}
	}
}

// oneBroken returns, for each condition, states that break it alone. Condition 10, that no link is more than W behind the one before, always comes with another one.
func oneBroken() map[int][]api.Chain {
	list := map[int][]api.Chain{}
	wrongSizes(list)
	wrongStarts(list)
	wrongLinks(list)
	wrongSuccessors(list)
	return list
}

// twoBroken returns states that break condition 10, or that I is at least 0, and one condition that they cannot fulfil with it.
func twoBroken() []api.Chain {
	var list []api.Chain
	for _, w := range windows() {
		for _, i := range []int64{w + 2, w + 500, total - 1, total} {
			list = append(list, state(w, 9, i, i+1, i-w-1, 5, i, 5), state(w, 9, i, i+1, i, 5, i+w+1, 5), state(w, 9, i, i+1, i-1, 5, i+w, 5), state(w, 9, i, i+1, 1, 5, i, 5))
			if w > 1 {
				list = append(list, state(w, 9, i, i+1, i-w-3, 5, i-1, 5, i, 5), state(w, 9, i, i+1, i-1, 5, i, 5, most, 5))
			}
		}
		for _, i := range []int64{-1, -2, -w, least} {
			list = append(list, state(w, 9, i, i+1), state(w, 9, i, i+w), state(w, 9, i, 0), state(w, 9, i, i+1, 1, 5), state(w, 9, i, i+1, i, 5))
		}
	}
	return list
}

// hugeStates returns states with numbers near the least and the greatest int64, most of which break several conditions.
func hugeStates() []api.Chain {
	var list []api.Chain
	for _, n := range extremes() {
		for _, m := range []int64{least, -1, 0, 1, 5, total, most} {
			list = append(list, state(n, int(m), n, n, n, m), state(n, int(n), m, m, m, n), state(m, int(n), n, n, m, m), state(9, 9, n, n+1, n, m), state(9, 9, m, m+1, n, n, m, m), state(9, 9, m, n, m, 5), state(longest, fullest, m, n, m, m, n, n), state(n, 9, m, m+1, m, 5), state(n, 9, 9, m, 8, m, 9, n), state(m, 9, n, n-1, n, 5, n, 5), state(9, 9, 20, n, 15, 5, 20, 5), state(9, 9, 20, m, n, 5), state(9, 9, 20, 21, 15, 5, n, 5))
		}
	}
	return slices.DeleteFunc(list, valid)
}

// invalidStates returns states that are not valid.
func invalidStates() []api.Chain {
	list := append(hugeStates(), twoBroken()...)
	list = append(list, api.Chain{}, state(3, -1, 5, 6, 5, 1), state(3, math.MinInt, 5, 6, 5, 1), state(0, 9, 5, 6, 5, 1), state(3, 0, 5, 6, 5, 1), state(3, 9, -1, 0, -1, 1), state(3, 2, 5, 6, 3, 9, 4, 8, 5, 7), state(3, 9, 5, 6, 2, 1), state(3, 9, 5, 5, 5, 9), state(3, 2, 0, 1, 1, 5))
	for condition := 1; condition <= 15; condition++ {
		for i, x := range oneBroken()[condition] {
			if condition < 14 || i%17 == 0 {
				list = append(list, x)
			}
		}
	}
	return list
}

// extremes returns numbers that are no windows, no sizes, no values and no indices.
func extremes() []int64 {
	return []int64{least, least + 1, least + highest, least + longest, least + total, -1 << 62, -total - 1, -1<<32 - 1, -1 << 32, -1<<32 + 1, -1 << 31, -longest - 1, 1<<31 - 1, 1 << 31, 1 << 32, 1<<32 + 1, 1<<32 + 5, total + longest + 2, 1 << 62, most - total, most - longest, most - highest, most - 1, most}
}

// edges returns the numbers around all limits.
func edges() []int64 {
	list := extremes()
	for d := int64(-2); d <= 2; d++ {
		list = append(list, d, highest+d, -highest+d, fullest+d, longest+d, total/2+d, total+d)
	}
	return list
}
