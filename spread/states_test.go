package spread

import (
	"slices"

	"windowpane/api"
)

// its returns the items with these ticks and values in turn.
func its(numbers ...int64) []api.Item {
	var items []api.Item
	for i := 0; i < len(numbers); i += 2 {
		items = append(items, api.Item{T: numbers[i], V: numbers[i+1]})
	}
	return items
}

// vals writes a list of values.
func vals(values ...int64) []int64 { return values }

// often returns the same values n times.
func often(n int, values ...int64) []int64 { return slices.Repeat(values, n) }

// then returns the lists one after the other.
func then(lists ...[]int64) []int64 { return slices.Concat(lists...) }

// at writes a list of places.
func at(places ...int) []int { return places }

// upTo returns the places from one to another, and other ones before them.
func upTo(first, end int, before ...int) []int {
	for i := first; i <= end; i++ {
		before = append(before, i)
	}
	return before
}

// empty returns the histogram without marks after seq items.
func empty(w int64, k, size int, now, seq int64) api.Spread {
	return api.Spread{W: w, K: k, Cap: size, Now: now, Seq: seq}
}

// base returns the histogram without marks in which most others differ: a window of the ticks 3 to 5.
func base(seq int64) api.Spread { return empty(3, 1, 9, 5, seq) }

// holding returns the state with other marks.
func holding(x api.Spread, list ...api.Mark) api.Spread {
	x.Marks = list
	return x
}

// copied returns the state with a list of its own.
func copied(x api.Spread) api.Spread { return holding(x, slices.Clone(x.Marks)...) }

// same reports whether two states are equal; a nil list and an empty one are equivalent.
func same(a, b api.Spread) bool {
	return a.W == b.W && a.K == b.K && a.Cap == b.Cap && a.Now == b.Now && a.Seq == b.Seq && slices.Equal(a.Marks, b.Marks)
}

// marked returns the state with marks at these places of a list of items, the last of which has the number Seq.
func marked(x api.Spread, items []api.Item, places ...int) api.Spread {
	x.Marks = nil
	for _, i := range places {
		x.Marks = append(x.Marks, mark(x.Seq-int64(len(items))+int64(i)+1, items[i:]))
	}
	return x
}

// changed returns the state with the mark i changed.
func changed(x api.Spread, i int, change func(m *api.Mark)) api.Spread {
	x = copied(x)
	change(&x.Marks[i])
	return x
}

// alike returns the mark of the last n of seq items, all with the same value and the tick at.
func alike(seq, n, at, v int64) api.Mark {
	return api.Mark{Seq: seq - n + 1, T: at, N: n, S: n * v, Q: n * v * v, Min: v, Max: v}
}

// filled returns the histogram of the most items, half of them with the greatest value and half with the least one.
func filled() api.Spread {
	x := empty(longest, 1, fullest, last, final-1)
	for n := int64(fullest); n > 1; n /= 2 {
		x.Marks = append(x.Marks, api.Mark{Seq: final - n, T: last, N: n, Q: n * highest * highest, Min: -highest, Max: highest})
	}
	return holding(x, append(x.Marks, alike(final-1, 1, last, highest))...)
}

// shape is a K, a list of values, and the places at which the marks are.
type shape struct {
	k      int
	values []int64
	places []int
}

// timed returns the items of a shape: the first one has the tick first, the last one the tick 5, and those between the tick 3.
func (s shape) timed(first int64) []api.Item {
	items := its(first, s.values[0])
	for i, v := range s.values[1:] {
		items = append(items, api.Item{T: 3 + 2*int64((i+2)/len(s.values)), V: v})
	}
	return items
}

// state returns the histogram of a shape, with this number of the last item and room for so many more.
func (s shape) state(first, seq int64, room int) api.Spread {
	return marked(empty(3, s.k, len(s.values)+room, 5, seq), s.timed(first), s.places...)
}

// states returns histograms of a shape: all marks are live; the first one of several is just not, and long not; Seq and Cap vary.
func (s shape) states() []api.Spread {
	var list []api.Spread
	for _, first := range []int64{3, 2, 0} {
		if len(s.places) == 1 && first < 3 {
			continue
		}
		for _, seq := range []int64{int64(len(s.values)), 9999, final - 1, final} {
			list = append(list, s.state(first, seq, 0), s.state(first, seq, 1), s.state(first, seq, fullest-len(s.values)))
		}
	}
	return list
}

// ones returns n values of 1 and n of -1, whose spread is 2 n.
func ones(n int) []int64 { return often(n, 1, -1) }

// validShapes returns shapes whose marks are as near to each other as they may be, and some that have few.
func validShapes() []shape {
	return []shape{
		{1, vals(0), at(0)}, {finest, vals(-highest), at(0)}, {1, vals(highest, -highest), at(0, 1)}, {1, vals(1, 2, 6), at(0, 1, 2)}, {1, vals(1, 2, 6), at(0, 2)}, {finest, vals(-1, 2, -3, 4), at(0, 1, 2, 3)}, {2, vals(highest, -highest, highest), at(0, 1, 2)},
		// Only the numbers decide: 6 9 is just less than 5 11, 384 765 than 383 767.
		{1, often(11, 5), upTo(0, 10)}, {1, often(12, 5), upTo(2, 11, 0)}, {1, often(12, 5), at(0, 1, 11)}, {1, often(12, 5), at(0, 11)}, {1, often(13, -highest), at(0, 2, 3, 12)}, {2, often(23, 0), at(0, 1, 2, 22)}, {finest, often(767, 7), at(0, 1, 2, 766)},
		// Only the spreads decide: 6 8 is less than 5 10, 384 764 than 383 766.
		{1, then(vals(1, -1), ones(4), often(6, 0)), at(0, 1, 2, 15)}, {1, then(vals(9, 0), often(30, 0)), at(0, 1, 2, 31)}, {1, then(vals(77, -77), often(10, highest, -highest), often(40, 0)), at(0, 2, 61)}, {finest, then(vals(1, -1), ones(382), often(4, 0)), at(0, 1, 2, 769)},
		// Both do.
		{1, then(vals(1000, 500, 250, 125, 60), often(49, 0)), at(0, 1, 2, 3, 4, 53)}, {1, vals(1, 2, 3, 4, 5, 6, 7, 8, 9, 10, 11, 12), upTo(0, 11)},
	}
}

// closeShapes returns shapes that break condition 5 alone.
func closeShapes() []shape {
	return []shape{
		{1, often(12, 5), upTo(0, 11)}, {1, often(12, 5), at(0, 1, 2, 11)}, {1, often(12, -highest), at(0, 1, 2, 3, 11)}, {1, often(13, 0), at(0, 1, 2, 12)}, {1, often(40, 9), at(0, 15, 16, 18, 39)}, {2, often(24, 0), at(0, 1, 2, 23)}, {finest, often(768, 7), at(0, 1, 2, 767)},
		{1, then(vals(1, -1), ones(5), often(2, 0)), at(0, 1, 2, 13)}, {1, then(vals(1, -1), ones(6)), at(0, 1, 2, 13)}, {1, then(vals(7, -7), often(10, highest, -highest), often(40, 0)), at(0, 1, 2, 61)}, {finest, then(vals(1, -1), ones(383)), at(0, 1, 2, 767)}, {finest, then(vals(1, -1), ones(383), often(2, 0)), at(0, 1, 2, 769)},
	}
}

// validStates returns states at the limits.
func validStates() []api.Spread {
	list := []api.Spread{
		// The empty histogram, with the least and the greatest numbers.
		base(0), base(1), base(final - 1), base(final), {W: 1, K: 1, Cap: 1, Marks: []api.Mark{}}, empty(1, 1, 1, 0, 0), empty(longest, finest, fullest, last, final), empty(longest, 1, 1, 0, 0), empty(1, finest, 1, 0, 0), empty(1, 1, fullest, 0, 0), empty(1, 1, 1, last, 0),
		// Windows of one tick and the longest ones, at the first and the last tick.
		marked(empty(1, 1, 1, 0, 1), its(0, 3), 0), marked(empty(1, 1, 2, last, 2), its(0, 3, last, 4), 0, 1), marked(empty(longest, finest, fullest, last, final), its(last-longest+1, 3), 0), marked(empty(longest, 1, 2, last, 2), its(last-longest, 3, last-longest+1, 4), 0, 1), marked(empty(longest, 1, 1, longest-1, 1), its(0, 3), 0), marked(empty(longest, 1, 2, longest, 2), its(0, 3, 1, 3), 0, 1), filled(),
	}
	for _, s := range validShapes() {
		list = append(list, s.states()...)
	}
	return list
}

// someStates returns valid states of all sorts, not too many.
func someStates() []api.Spread {
	var list []api.Spread
	for i, x := range validStates() {
		if i%7 == 0 || len(x.Marks) == 0 || len(x.Marks) > 12 {
			list = append(list, x)
		}
	}
	return list
}

// oneBroken returns, for each condition, states that break it alone.
func oneBroken() map[int][]api.Spread {
	two := marked(base(2), its(4, 0, 5, 5), 0, 1)
	list := map[int][]api.Spread{1: numberBroken(two), 2: endBroken(two), 3: timeBroken(), 4: sumBroken()}
	for _, s := range closeShapes() {
		list[5] = append(list[5], s.states()...)
	}
	return list
}

// numberBroken returns states that break condition 1 alone.
func numberBroken(two api.Spread) []api.Spread {
	small := two
	small.Cap = 1
	return []api.Spread{
		// Seq is less than 1, with and without items.
		marked(base(1), its(4, 3, 5, 4), 0, 1), marked(base(0), its(5, 3), 0), marked(base(0), its(4, 3, 5, 4), 0, 1),
		// N is greater than Cap.
		small, marked(empty(3, 2, 2, 5, 9), its(3, 9, 4, 5, 5, 1), 0, 1, 2), marked(empty(3, 2, 2, 5, final), its(2, 9, 4, 5, 5, 1), 0, 2),
		// N is not the number of items from Seq on.
		changed(two, 0, func(m *api.Mark) { m.N = 1 }), changed(two, 0, func(m *api.Mark) { m.N = 3 }), changed(two, 0, func(m *api.Mark) { m.N = 9 }), changed(two, 0, func(m *api.Mark) { m.N = fullest }),
		// Seq does not ascend strictly.
		holding(base(2), alike(2, 1, 5, 3), alike(2, 1, 5, 3)),
	}
}

// endBroken returns states that break condition 2 alone.
func endBroken(two api.Spread) []api.Spread {
	one := marked(base(7), its(5, 3), 0)
	return []api.Spread{
		// The last mark is not that of the last item.
		holding(two, two.Marks[0]), marked(base(2), its(5, 3, 5, 3), 0), marked(base(9), its(3, 0, 4, 0, 5, 0), 0, 1),
		// Its numbers are not those of one item.
		changed(one, 0, func(m *api.Mark) { m.Q++ }), changed(one, 0, func(m *api.Mark) { m.Q = highest * highest }), changed(one, 0, func(m *api.Mark) { m.Min-- }), changed(one, 0, func(m *api.Mark) { m.Max++ }), changed(one, 0, func(m *api.Mark) { m.Min, m.Max = 0, highest }), changed(marked(base(7), its(5, 0), 0), 0, func(m *api.Mark) { m.Q = 1 }), changed(two, 1, func(m *api.Mark) { m.Min-- }),
	}
}

// timeBroken returns states that break condition 3 alone.
func timeBroken() []api.Spread {
	three := func(a, b, c int64) api.Spread {
		return marked(empty(3, 2, 9, 5, 3), its(a, 2, b, 3, c, 4), 0, 1, 2)
	}
	long := empty(longest, 2, 9, 5, 2)
	return []api.Spread{
		// The only mark, the second and the third one are not live.
		marked(base(1), its(2, 3), 0), marked(base(1), its(0, 3), 0), marked(empty(1, 1, 1, 1, 1), its(0, 3), 0), marked(empty(longest, 1, 1, last, 1), its(last-longest, 3), 0), marked(base(2), its(2, 3, 2, 4), 0, 1), marked(base(2), its(0, 3, 1, 4), 0, 1), three(0, 1, 2), three(2, 2, 3), three(0, 2, 5), marked(empty(longest, 1, 2, last, 2), its(last-longest, 3, last-longest, 3), 0, 1),
		// Ticks descend.
		three(4, 3, 5), three(5, 5, 4), three(3, 5, 3), marked(base(2), its(5, 3, 4, 4), 0, 1), marked(base(2), its(4, 3, 3, 4), 0, 1),
		// They are past Now, or negative.
		marked(base(1), its(6, 3), 0), three(3, 4, 6), three(5, 6, 6), marked(base(2), its(6, 3, 6, 3), 0, 1), marked(long, its(-1, 3, 0, 4), 0, 1), marked(long, its(-1, 3, 5, 4), 0, 1), marked(long, its(-2, 3, -1, 4), 0, 1), marked(empty(longest, 1, 9, 5, 1), its(-1, 3), 0), marked(base(2), its(-1, 3, 4, 4), 0, 1),
	}
}

// pair returns a histogram of two items with a mark of each: the first mark has any sums, and the last item has the value v.
func pair(s, q, low, high, v int64) api.Spread {
	return holding(base(2), api.Mark{Seq: 1, T: 4, N: 2, S: s, Q: q, Min: low, Max: high}, alike(2, 1, 5, v))
}

// sumBroken returns states that break condition 4 alone.
func sumBroken() []api.Spread {
	return []api.Spread{
		// Max or Min is not a value.
		pair(12, 90, 3, highest+1, 9), pair(4097, 16785409, 0, highest+1, 0), pair(5, 25, -highest-1, 5, 5), pair(highest+1, (highest+1)*(highest+1), highest+1, highest+1, highest+1), marked(base(1), its(5, highest+1), 0), marked(base(1), its(5, -highest-1), 0),
		// Min is greater than Max.
		pair(12, 90, 9, 3, 9), pair(18, 162, 10, 9, 9), pair(18, 162, 9, 8, 9),
		// The sum is less than N Min, and greater than N Max.
		pair(7, 29, 4, 5, 5), pair(9, 45, 3, 4, 3), pair(0, 0, 1, 5, 5),
		// The sum of the squares is negative, too great, and too small.
		pair(0, -1, 0, 0, 0), pair(4, 2*highest*highest+1, 0, highest, 4), pair(12, 71, 0, 12, 6), pair(1, 0, 0, 1, 0),
		// Min falls, and Max rises.
		pair(12, 90, 4, 9, 3), pair(10, 82, 1, 8, 9), pair(6, 18, 3, 4, 2),
		// The items between the marks have a sum that is too small, and one that is too great.
		pair(10, 82, 2, 9, 9), pair(10, 82, 1, 8, 1), pair(5, 25, 2, 5, 5),
		// They have squares with a sum that is negative, too great, and too small.
		pair(9, 80, 0, 9, 9), pair(10, 80, 0, 9, 9), pair(10, 82+highest*highest, 0, 9, 9), pair(14, 105, 0, 9, 9), pair(13, 96, 4, 9, 9),
	}
}

// hugeStates returns states with numbers near the least and the greatest int64: products and sums that wrap around would look right.
func hugeStates() []api.Spread {
	var list []api.Spread
	two := marked(base(2), its(4, 0, 5, 5), 0, 1)
	for _, n := range []int64{least, least + 1, -1 << 62, -1 << 32, -1<<32 + 1, 1 << 32, 1<<32 - 1, 1 << 62, 1<<62 - 1, most - 1, most} {
		for i := range 2 {
			for _, change := range []func(m *api.Mark){
				func(m *api.Mark) { m.Seq, m.N = n, 3-n }, func(m *api.Mark) { m.Seq = n }, func(m *api.Mark) { m.N = n }, func(m *api.Mark) { m.T = n }, func(m *api.Mark) { m.S = n }, func(m *api.Mark) { m.Q = n }, func(m *api.Mark) { m.Min = n }, func(m *api.Mark) { m.Max = n },
				func(m *api.Mark) { m.Min, m.Max = n, n }, func(m *api.Mark) { m.Min, m.Max = least, n }, func(m *api.Mark) { m.Min, m.Max = n, most }, func(m *api.Mark) { m.S, m.Q = n, n*n }, func(m *api.Mark) { m.S, m.Q = n, most }, func(m *api.Mark) { m.S, m.Q, m.Max = n, n*n, most }, func(m *api.Mark) { m.S, m.Q, m.Min, m.Max = n, n*n, n, n }, func(m *api.Mark) { m.S, m.Q, m.Min, m.Max = n, 0, least, most },
			} {
				list = append(list, changed(two, i, change))
			}
		}
		if n >= 0 && n <= final {
			continue
		}
		x := two
		x.Seq = n
		list = append(list, x, holding(x), holding(x, alike(n, 2, 4, 5), alike(n, 1, 5, 5)), holding(x, alike(n, 1, 5, 5)))
	}
	return list
}

// with returns the state with other parameters.
func with(x api.Spread, w int64, k, size int) api.Spread {
	x.W, x.K, x.Cap = w, k, size
	return x
}

// wrongSizes returns states with a parameter that is out of range.
func wrongSizes() []api.Spread {
	list := []api.Spread{{}, {W: 3}, {K: 1}, {Cap: 2}, {W: 3, K: 1}, {W: 3, Cap: 2}, {K: 1, Cap: 2}, base(-1), base(least), base(final + 1), base(most), marked(base(final+1), its(5, 3), 0), marked(base(final+2), its(4, 0, 5, 5), 0, 1), marked(empty(3, 1, 9, last+1, 1), its(last, 3), 0), marked(empty(3, 1, 9, last+1, 1), its(last+1, 3), 0), marked(empty(3, 1, 9, -1, 1), its(-1, 3), 0)}
	for _, x := range []api.Spread{base(0), marked(base(1), its(5, 3), 0), marked(base(2), its(2, 0, 5, 5), 0, 1)} {
		for _, n := range []int64{0, -1, least, most, 1<<32 + 1, final + 1} {
			list = append(list, with(x, n, x.K, x.Cap), with(x, x.W, int(n), x.Cap), with(x, x.W, x.K, int(n)))
		}
		list = append(list, with(x, longest+1, x.K, x.Cap), with(x, x.W, finest+1, x.Cap), with(x, x.W, x.K, fullest+1))
		for _, n := range []int64{-1, least, most, 1<<32 + 5, last + 1} {
			y := x
			y.Now = n
			list = append(list, y)
		}
		for _, n := range []int64{-1, least, most, final + 1, final + 2} {
			y := x
			y.Seq = n
			list = append(list, y)
		}
	}
	return list
}

// invalidStates returns states that are not valid.
func invalidStates() []api.Spread {
	list := append(wrongSizes(), hugeStates()...)
	for _, states := range oneBroken() {
		list = append(list, states...)
	}
	return list
}

// edges returns the numbers around all limits.
func edges() []int64 {
	var list []int64
	for d := int64(-2); d <= 2; d++ {
		list = append(list, d, finest+d, highest+d, -highest+d, fullest+d, longest+d, last-longest+d, last+d, 1<<32+d, final+d, highest*fullest+d, -highest*fullest+d, 1<<31+d, -1<<31+d, 1<<62+d)
	}
	for d := range int64(3) {
		list = append(list, least+d, most-d, least+longest+d, most-longest-d)
	}
	return list
}
