package halve

import (
	"slices"

	"windowpane/api"
)

// state returns the counter with these sums.
func state(now int64, sums ...int64) api.Halve { return api.Halve{Now: now, Sums: sums} }

// same reports whether two states are equal; a nil list and an empty one are equivalent.
func same(a, b api.Halve) bool { return a.Now == b.Now && slices.Equal(a.Sums, b.Sums) }

// copied returns the state with a list of its own.
func copied(x api.Halve) api.Halve {
	x.Sums = slices.Clone(x.Sums)
	return x
}

// at returns the state with another tick and the same sums.
func at(x api.Halve, now int64) api.Halve {
	x.Now = now
	return x
}

// changed returns the state with another sum at the place e.
func changed(x api.Halve, e int, s int64) api.Halve {
	x = copied(x)
	x.Sums[e] = s
	return x
}

// flat returns the counter with a sums that are equal, as far as there can be items.
func flat(a int, now, s int64) api.Halve {
	x := state(now, make([]int64, a)...)
	for e := range a {
		if int64(e) <= now {
			x.Sums[e] = s
		}
	}
	return x
}

// lone returns the counter with a sums, of which only the one at the place e is not 0.
func lone(a int, now int64, e int, s int64) api.Halve { return changed(flat(a, now, 0), e, s) }

// rise returns the counter with a sums that differ from each other, as far as there can be items.
func rise(a int, now, first int64) api.Halve {
	x := flat(a, now, first)
	for e := range a {
		if int64(e) <= now {
			x.Sums[e] += 7 * int64(e)
		}
	}
	return x
}

// lengths returns numbers of sums.
func lengths() []int { return []int{1, 2, 3, 4, 7, 31, 32, 33, 62, 63, 64} }

// clocks returns ticks: the first ones, those at which the counters of a sums have no place left for an older item, and the last ones.
func clocks(a int) []int64 {
	list := []int64{0, 1, 2, int64(a) - 2, int64(a) - 1, int64(a), int64(a) + 1, 64, 65, 1000, 1 << 16, last / 2, last - 1, last}
	list = slices.DeleteFunc(list, func(now int64) bool { return now < 0 })
	slices.Sort(list)
	return slices.Compact(list)
}

// places returns the first, a middle and the last place at which a counter can have a sum that is not 0.
func places(a int, now int64) []int {
	end := a - 1
	if now < int64(end) {
		end = int(now)
	}
	return slices.Compact([]int{0, end / 2, end})
}

// validStates returns states at the limits.
func validStates() []api.Halve {
	var list []api.Halve
	for _, a := range lengths() {
		for _, now := range clocks(a) {
			list = append(list, flat(a, now, 0), flat(a, now, 1), flat(a, now, full), flat(a, now, full-highest), rise(a, now, 1), rise(a, now, full/2))
			for _, e := range places(a, now) {
				list = append(list, lone(a, now, e, 1), lone(a, now, e, full), changed(flat(a, now, full), e, 0), changed(flat(a, now, 9), e, full-highest+1))
			}
		}
	}
	return list
}

// oneBroken returns, for each condition, states that break it alone.
func oneBroken() map[int][]api.Halve {
	list := map[int][]api.Halve{}
	for _, now := range []int64{0, 1, 63, 64, 65, 1000, last - 1, last} {
		list[1] = append(list[1], state(now), flat(65, now, 0), flat(65, now, 1), flat(66, now, full), lone(65, now, 0, 5), flat(128, now, 1), flat(1000, now, 3))
	}
	wrong := append(extremes(), -1, -2, -highest, -full, full+1, full+2, 2*full)
	for _, a := range lengths() {
		for _, now := range clocks(a) {
			for e := range a {
				for _, s := range wrong {
					if int64(e) <= now && !total(s) {
						list[2] = append(list[2], changed(rise(a, now, 5), e, s))
					}
				}
				if int64(e) > now {
					list[4] = append(list[4], lone(a, now, e, 1), lone(a, now, e, full), changed(flat(a, now, full), e, full), changed(rise(a, now, 5), e, 77))
				}
			}
		}
		for _, n := range append(extremes(), -1, -2, last+1, last+2) {
			list[3] = append(list[3], at(flat(a, 0, 0), n))
			if n > last {
				list[3] = append(list[3], flat(a, n, 1), flat(a, n, full), rise(a, n, 9))
			}
		}
	}
	return list
}

// hugeStates returns states with numbers near the least and the greatest int64, some of which break several conditions.
func hugeStates() []api.Halve {
	var list []api.Halve
	for _, n := range extremes() {
		for _, a := range []int{1, 2, 63, 64, 65} {
			for _, m := range []int64{-1, 0, 1, full, full + 1} {
				x := state(n, slices.Repeat([]int64{m}, a)...)
				list = append(list, x, changed(x, 0, n), changed(x, a-1, n), at(changed(x, a/2, n), 3))
			}
			list = append(list, state(7, slices.Repeat([]int64{n}, a)...), state(n, slices.Repeat([]int64{n}, a)...), state(-1, slices.Repeat([]int64{n}, a)...))
		}
		list = append(list, state(n))
	}
	return slices.DeleteFunc(list, valid)
}

// invalidStates returns states that are not valid.
func invalidStates() []api.Halve {
	list := append(hugeStates(), api.Halve{}, state(7), state(1, 2, 5, 1), state(1, -1), state(-1, 0), state(-1, 1), state(-1, 0, 1), state(last+1, 0, 1))
	for condition, n := range []int{1: 1, 2: 41, 3: 3, 4: 9} {
		for i, x := range oneBroken()[condition] {
			if i%n == 0 {
				list = append(list, x)
			}
		}
	}
	return list
}

// extremes returns numbers that are no ticks, no values and no numbers of sums.
func extremes() []int64 {
	return []int64{least, least + 1, least + last, least + full, -1 << 62, -1<<32 - 1, -1 << 32, -1<<32 + 1, -1 << 31, -full - 1, -last - 1, 1<<31 - 1, 1 << 31, 1 << 32, 1<<32 + 1, 1<<32 + 64, 1 << 62, most - full, most - last, most - highest, most - 64, most - 1, most}
}

// edges returns the numbers around all limits.
func edges() []int64 {
	list := extremes()
	for d := int64(-2); d <= 2; d++ {
		list = append(list, d, oldest+d, -oldest+d, highest+d, -highest+d, 1<<16+d, 1<<20+d, last/2+d, last+d, full+d)
	}
	return list
}
