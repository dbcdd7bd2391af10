package draw

import (
	"math"
	"math/big"
	"math/rand"
	"slices"
	"testing"

	"windowpane/api"
)

type list = []int64

const (
	least    = math.MinInt64
	most     = math.MaxInt64
	greatest = 1 << 62 // the greatest weight
)

// ones returns a list of n ranges of 1.
func ones(n int) list { return slices.Repeat(list{1}, n) }

// zeros returns a list of n draws of 0.
func zeros(n int) list { return make(list, n) }

// walk returns all sequences of some ranges in lexicographic order, by one loop for each range and without numbers. All ranges are at least 1.
func walk(ranges list) []list {
	if len(ranges) == 0 {
		return []list{nil}
	}
	var all []list
	for first := range ranges[0] {
		for _, rest := range walk(ranges[1:]) {
			all = append(all, append(list{first}, rest...))
		}
	}
	return all
}

// weightOf returns what Weight returns, by the exact product of all ranges.
func weightOf(ranges list) (int64, bool) {
	product := big.NewInt(1)
	for _, m := range ranges {
		if m < 1 {
			return 0, false
		}
		product.Mul(product, big.NewInt(m))
	}
	if product.Cmp(big.NewInt(greatest)) > 0 {
		return 0, false
	}
	return product.Int64(), true
}

// smallRanges returns all lists of up to 4 ranges from 1 to 4.
func smallRanges() []list {
	all := []list{nil}
	for _, n := range []int{1, 2, 3, 4} {
		for _, s := range walk(slices.Repeat(list{4}, n)) {
			for i := range s {
				s[i]++
			}
			all = append(all, s)
		}
	}
	return all
}

// greatRanges returns lists of ranges with great weights.
func greatRanges() []list {
	return []list{
		{greatest}, {greatest - 1}, {greatest, 1}, {1, greatest}, {1, greatest, 1}, {1 << 31, 1 << 31}, {2, 1 << 61}, {1 << 61, 2}, {3, 1 << 60}, {1 << 60, 3, 1}, {1 << 20, 1 << 21, 1 << 21},
		slices.Repeat(list{2}, 62), slices.Repeat(list{4}, 31), slices.Repeat(list{3}, 39), slices.Repeat(list{10}, 18), slices.Repeat(list{2, 1}, 62), slices.Repeat(list{1, 2, 3, 4, 5}, 8), {math.MaxUint32, 1 << 30}, {1 << 30, math.MaxUint32}, {1<<31 - 1, 1<<31 + 1},
	}
}

// badRanges returns lists of ranges that have no weight.
func badRanges() []list {
	all := []list{
		// The product is too great, by 1, by little and by far.
		{greatest + 1}, {greatest, 2}, {2, greatest}, {1 << 31, 1<<31 + 1}, {1<<31 + 1, 1<<31 - 1, 2}, {3, 1537228672809129302}, {1 << 61, 3}, {most}, {most, 1}, {1, most}, {most, most}, {greatest, greatest}, {1 << 32, 1 << 32}, {1 << 32, 1 << 31}, {1 << 33, 1 << 33}, {1 << 40, 1 << 40, 1 << 40}, slices.Repeat(list{2}, 63), slices.Repeat(list{2}, 64), slices.Repeat(list{2}, 65), slices.Repeat(list{2}, 128), slices.Repeat(list{3}, 40), slices.Repeat(list{3}, 1000), slices.Repeat(list{most}, 100),
		// The product modulo 2^64 would fit.
		{1 << 32, 1<<32 + 1}, {5, 3689348814741910324}, {1 << 62, 4, 1}, {1 << 62, 1 << 2, 3},
		// A range is too small.
		{0}, {-1}, {least}, {-2, -3}, {-1, -1}, {-1, -1, 5}, {0, 0}, {-1, 0}, {least, -1}, {-1, least}, {least, least}, {least, 2}, {-greatest, -1}, {0, most}, {0, greatest}, {0, greatest, greatest},
		// A range is too small, behind a product that is too great.
		{greatest, 2, 0}, {greatest, greatest, 0}, {greatest, 2, -1}, {most, 2, 0}, {most, -1}, {most, least}, {greatest + 1, 0}, {greatest + 1, -1}, {most, most, -1, -1}, {greatest, greatest, least, least}, {greatest, 0}, {greatest, -1},
	}
	for _, bad := range (list{0, -1, -2, -3, least, -most, -greatest}) {
		for at := range 5 {
			all = append(all, slices.Insert(list{2, 3, 1, 4}, at, bad), slices.Insert(ones(4), at, bad))
		}
	}
	return all
}

func TestNext(t *testing.T) {
	for _, c := range []struct {
		draws list
		at    int
		m     int64
		want  int64
		next  int
		err   api.Errno
	}{
		{list{4, 2}, 0, 5, 4, 1, api.OK}, {list{4, 2}, 1, 3, 2, 2, api.OK}, {list{4, 2}, 1, 100, 2, 2, api.OK}, {list{0, 1, 2}, 1, 2, 1, 2, api.OK},
		// The first and the last draw of a range.
		{list{0}, 0, 1, 0, 1, api.OK}, {list{0}, 0, 6, 0, 1, api.OK}, {list{5}, 0, 6, 5, 1, api.OK}, {list{0}, 0, most, 0, 1, api.OK}, {list{most - 1}, 0, most, most - 1, 1, api.OK},
		// The draws at other places do not matter.
		{list{9, -1, 2}, 2, 3, 2, 3, api.OK}, {list{9, 1, least}, 1, 3, 1, 2, api.OK}, {list{0, most}, 0, 1, 0, 1, api.OK}, {list{0, 9, 0}, 1, 3, 0, 0, api.ErrDraw}, {list{0, -1, 0}, 1, 3, 0, 0, api.ErrDraw},
		// The draw is out of its range.
		{list{1}, 0, 1, 0, 0, api.ErrDraw}, {list{6}, 0, 6, 0, 0, api.ErrDraw}, {list{7}, 0, 6, 0, 0, api.ErrDraw}, {list{-1}, 0, 6, 0, 0, api.ErrDraw}, {list{-1}, 0, 1, 0, 0, api.ErrDraw}, {list{least}, 0, 6, 0, 0, api.ErrDraw}, {list{most}, 0, 6, 0, 0, api.ErrDraw}, {list{most}, 0, most, 0, 0, api.ErrDraw}, {list{least}, 0, most, 0, 0, api.ErrDraw}, {list{4, 2}, 0, 4, 0, 0, api.ErrDraw}, {list{4, 2}, 1, 2, 0, 0, api.ErrDraw},
		// There is no element at this place.
		{list{4, 2}, 2, 5, 0, 0, api.ErrDraw}, {list{4, 2}, 3, 5, 0, 0, api.ErrDraw}, {list{4, 2}, math.MaxInt, 5, 0, 0, api.ErrDraw}, {nil, 0, 1, 0, 0, api.ErrDraw}, {list{}, 0, 1, 0, 0, api.ErrDraw}, {nil, 1, 1, 0, 0, api.ErrDraw}, {nil, math.MaxInt, most, 0, 0, api.ErrDraw}, {list{0, 0}[:1], 1, 1, 0, 0, api.ErrDraw},
		// The range is less than 1.
		{list{0}, 0, 0, 0, 0, api.ErrArg}, {list{0}, 0, -1, 0, 0, api.ErrArg}, {list{0}, 0, least, 0, 0, api.ErrArg}, {list{-3}, 0, -2, 0, 0, api.ErrArg},
		// The index is negative.
		{list{0}, -1, 1, 0, 0, api.ErrArg}, {list{0}, math.MinInt, 1, 0, 0, api.ErrArg}, {list{0, 0, 0}, -2, 1, 0, 0, api.ErrArg}, {nil, -1, most, 0, 0, api.ErrArg},
		// Both at once.
		{list{0}, -1, 0, 0, 0, api.ErrArg}, {nil, -1, -1, 0, 0, api.ErrArg}, {nil, math.MinInt, least, 0, 0, api.ErrArg},
		// There is no such draw either, and the error about the arguments comes first.
		{nil, 0, 0, 0, 0, api.ErrArg}, {nil, 5, 0, 0, 0, api.ErrArg}, {list{0}, 1, -1, 0, 0, api.ErrArg}, {list{5}, 0, 0, 0, 0, api.ErrArg}, {list{-1}, 0, 0, 0, 0, api.ErrArg}, {list{0}, math.MaxInt, least, 0, 0, api.ErrArg}, {list{7}, -1, 3, 0, 0, api.ErrArg},
	} {
		if got, next, err := Next(c.draws, c.at, c.m); got != c.want || next != c.next || err != c.err {
			t.Errorf("Next(%v, %d, %d) = %d, %d, %d, not %d, %d, %d", c.draws, c.at, c.m, got, next, err, c.want, c.next, c.err)
		}
	}
}

// TestNextReadsAList takes all draws of a list from the front on, and then looks behind it.
func TestNextReadsAList(t *testing.T) {
	draws, at := list{3, 0, 7, 7, 2, 9, 1}, 0
	for i, want := range draws {
		got, next, err := Next(draws, at, 10)
		if got != want || next != i+1 || err != api.OK {
			t.Fatalf("Next(%v, %d, 10) = %d, %d, %d", draws, at, got, next, err)
		}
		at = next
	}
	if got, next, err := Next(draws, at, 10); got != 0 || next != 0 || err != api.ErrDraw {
		t.Errorf("Next behind the list = %d, %d, %d", got, next, err)
	}
}

func TestNextAroundTheLimits(t *testing.T) {
	numbers := list{least, least + 1, -greatest, -4, -3, -2, -1, 0, 1, 2, 3, 4, 5, math.MaxInt32, 1 << 32, greatest, most - 2, most - 1, most}
	places := []int{math.MinInt, -2, -1, 0, 1, len(numbers) - 1, len(numbers), len(numbers) + 1, math.MaxInt}
	seen := map[api.Errno]int{}
	for shift := range numbers {
		draws := append(slices.Clone(numbers[shift:]), numbers[:shift]...)
		for _, at := range places {
			for _, m := range numbers {
				want, wantNext, wantErr := int64(0), 0, api.ErrDraw
				if at >= 0 && at < len(draws) && draws[at] > -1 && draws[at] <= m-1 {
					want, wantNext, wantErr = draws[at], at+1, api.OK
				}
				if m <= 0 || at <= -1 {
					want, wantNext, wantErr = 0, 0, api.ErrArg
				}
				seen[wantErr]++
				if got, next, err := Next(draws, at, m); got != want || next != wantNext || err != wantErr {
					t.Errorf("Next(%v, %d, %d) = %d, %d, %d, not %d, %d, %d", draws, at, m, got, next, err, want, wantNext, wantErr)
				}
			}
		}
	}
	for _, err := range []api.Errno{api.OK, api.ErrArg, api.ErrDraw} {
		if seen[err] < 100 {
			t.Errorf("the code %d is expected only %d times", err, seen[err])
		}
	}
}

func TestWeight(t *testing.T) {
	for _, c := range []struct {
		ranges list
		want   int64
	}{
		{nil, 1}, {list{}, 1}, {list{1}, 1}, {list{1, 1, 1}, 1}, {ones(10000), 1}, {list{2}, 2}, {list{2, 3}, 6}, {list{3, 2}, 6}, {list{2, 1, 3}, 6}, {list{1, 6, 1}, 6}, {list{2, 3, 4, 5}, 120}, {list{100000}, 100000}, {list{most / 2}, greatest - 1},
		// Exactly 2^62.
		{list{greatest}, greatest}, {list{greatest, 1}, greatest}, {list{1, greatest}, greatest}, {list{1 << 31, 1 << 31}, greatest}, {list{2, 1 << 61}, greatest}, {list{1 << 61, 2}, greatest}, {slices.Repeat(list{2}, 62), greatest}, {slices.Repeat(list{1, 4}, 31), greatest},
		// A little less.
		{list{1<<31 - 1, 1<<31 + 1}, greatest - 1}, {list{3, 1537228672809129301}, greatest - 1}, {slices.Repeat(list{3}, 39), 4052555153018976267},
	} {
		if got, ok := Weight(c.ranges); got != c.want || !ok {
			t.Errorf("Weight(%v) = %d, %t, not %d", c.ranges, got, ok, c.want)
		}
	}
}

func TestBadRanges(t *testing.T) {
	for _, ranges := range badRanges() {
		if got, ok := Weight(ranges); got != 0 || ok {
			t.Errorf("Weight(%v) = %d, %t", ranges, got, ok)
		}
		for _, n := range (list{0, 1, -1, 5, greatest, least, most}) {
			if got, ok := Sequence(ranges, n); got != nil || ok {
				t.Errorf("Sequence(%v, %d) = %v, %t", ranges, n, got, ok)
			}
		}
		for _, draws := range []list{nil, zeros(len(ranges)), ones(len(ranges)), slices.Repeat(list{-1}, len(ranges)), zeros(len(ranges) + 1)} {
			if got, ok := Number(ranges, draws); got != 0 || ok {
				t.Errorf("Number(%v, %v) = %d, %t", ranges, draws, got, ok)
			}
		}
		if got := All(ranges); got != nil {
			t.Errorf("All(%v) has %d sequences", ranges, len(got))
		}
	}
}

// TestWeightOfRandomRanges compares Weight with exact products, around 2^62 and elsewhere.
func TestWeightOfRandomRanges(t *testing.T) {
	source := rand.New(rand.NewSource(7))
	seen := map[bool]int{}
	for range 20000 {
		ranges := make(list, source.Intn(8))
		for i := range ranges {
			ranges[i] = 1 + source.Int63()>>source.Intn(63)
		}
		if len(ranges) > 0 && source.Intn(10) == 0 {
			ranges[source.Intn(len(ranges))] = -source.Int63() >> source.Intn(63)
		}
		// A last range that makes the product one around 2^62.
		if w, ok := weightOf(ranges); ok && source.Intn(2) == 0 {
			ranges = append(ranges, max(1, greatest/w+source.Int63n(3)-1))
		}
		want, wantOK := weightOf(ranges)
		seen[wantOK]++
		if got, ok := Weight(ranges); got != want || ok != wantOK {
			t.Fatalf("Weight(%v) = %d, %t, not %d, %t", ranges, got, ok, want, wantOK)
		}
	}
	if seen[true] < 5000 || seen[false] < 5000 {
		t.Errorf("the results are too much alike: %v", seen)
	}
}

func TestSequenceAndNumber(t *testing.T) {
	for _, c := range []struct {
		ranges list
		n      int64
		draws  list
	}{
		{list{2, 3}, 0, list{0, 0}}, {list{2, 3}, 1, list{0, 1}}, {list{2, 3}, 3, list{1, 0}}, {list{2, 3}, 4, list{1, 1}}, {list{2, 3}, 5, list{1, 2}}, {list{3, 2}, 4, list{2, 0}}, {list{2, 3, 4}, 23, list{1, 2, 3}}, {list{2, 3, 4}, 12, list{1, 0, 0}}, {list{10, 10, 10}, 507, list{5, 0, 7}},
		// No ranges, and ranges of 1.
		{nil, 0, nil}, {list{}, 0, list{}}, {list{1}, 0, list{0}}, {list{1, 1, 1}, 0, list{0, 0, 0}}, {ones(10000), 0, zeros(10000)}, {list{1, 2, 1, 3, 1}, 5, list{0, 1, 0, 2, 0}}, {list{1, 7}, 6, list{0, 6}}, {list{7, 1}, 6, list{6, 0}},
		// The last number of a great weight, and others of it.
		{list{greatest}, greatest - 1, list{greatest - 1}}, {list{greatest}, 0, list{0}}, {list{1 << 31, 1 << 31}, greatest - 1, list{1<<31 - 1, 1<<31 - 1}}, {list{1 << 31, 1 << 31}, 1 << 31, list{1, 0}}, {list{1 << 31, 1 << 31}, 1<<31 - 1, list{0, 1<<31 - 1}}, {slices.Repeat(list{2}, 62), greatest - 1, ones(62)}, {slices.Repeat(list{2}, 62), 1 << 61, append(list{1}, zeros(61)...)}, {slices.Repeat(list{10}, 18), 123456789012345678, list{1, 2, 3, 4, 5, 6, 7, 8, 9, 0, 1, 2, 3, 4, 5, 6, 7, 8}},
	} {
		if got, ok := Sequence(c.ranges, c.n); !slices.Equal(got, c.draws) || !ok {
			t.Errorf("Sequence(%v, %d) = %v, %t, not %v", c.ranges, c.n, got, ok, c.draws)
		}
		if got, ok := Number(c.ranges, c.draws); got != c.n || !ok {
			t.Errorf("Number(%v, %v) = %d, %t, not %d", c.ranges, c.draws, got, ok, c.n)
		}
	}
}

// TestNumbersOfNoSequence asks for numbers that are negative or not less than the weight.
func TestNumbersOfNoSequence(t *testing.T) {
	for _, ranges := range append(append(smallRanges(), greatRanges()...), ones(1000), list{100000}) {
		weight, _ := weightOf(ranges)
		for _, n := range (list{-1, -2, -weight, least, least + 1, weight, weight + 1, greatest, greatest + 1, most - 1, most}) {
			if got, ok := Sequence(ranges, n); got != nil || ok {
				t.Errorf("Sequence(%v, %d) = %v, %t", ranges, n, got, ok)
			}
		}
		// The numbers beside these have a sequence.
		for _, n := range (list{0, weight - 1}) {
			if got, ok := Sequence(ranges, n); len(got) != len(ranges) || !ok {
				t.Errorf("Sequence(%v, %d) = %v, %t", ranges, n, got, ok)
			}
		}
	}
}

// TestDrawsOfNoSequence spoils one draw at any place, and the number of draws.
func TestDrawsOfNoSequence(t *testing.T) {
	check := func(ranges, draws list) {
		if got, ok := Number(ranges, draws); got != 0 || ok {
			t.Errorf("Number(%v, %v) = %d, %t", ranges, draws, got, ok)
		}
	}
	for _, ranges := range append(append(smallRanges(), greatRanges()...), ones(100)) {
		end := slices.Clone(ranges)
		for i := range end {
			end[i]--
		}
		for _, draws := range []list{zeros(len(ranges)), end} {
			if _, ok := Number(ranges, draws); !ok {
				t.Errorf("Number(%v, %v) reports no sequence", ranges, draws)
			}
			for i, m := range ranges {
				for _, bad := range (list{-1, -2, -m, least, m, m + 1, 2 * m, most}) {
					spoilt := slices.Clone(draws)
					spoilt[i] = bad
					check(ranges, spoilt)
				}
			}
			check(ranges, append(slices.Clone(draws), 0))
			check(ranges, append(slices.Clone(draws), 0, 0))
			check(ranges, append(list{0}, draws...))
			if len(draws) > 0 {
				check(ranges, draws[1:])
				check(ranges, draws[:len(draws)-1])
				check(ranges, nil)
				check(ranges, list{}) // nil and empty are equivalent
			}
		}
	}
	// Two draws that are out of their ranges do not make up for each other.
	check(list{2, 3}, list{1, -1})
	check(list{2, 3}, list{2, -3})
	check(list{2, 3}, list{-1, 3})
	check(list{greatest}, list{greatest})
	check(nil, list{0})
	check(nil, list{-1})
}

// TestSmallSequences compares all functions with nested loops over the draws.
func TestSmallSequences(t *testing.T) {
	for _, ranges := range smallRanges() {
		want := walk(ranges)
		if w, ok := Weight(ranges); w != int64(len(want)) || !ok {
			t.Errorf("Weight(%v) = %d, %t, not %d", ranges, w, ok, len(want))
		}
		for i, draws := range want {
			if got, ok := Sequence(ranges, int64(i)); !slices.Equal(got, draws) || !ok {
				t.Errorf("Sequence(%v, %d) = %v, %t, not %v", ranges, i, got, ok, draws)
			}
			if got, ok := Number(ranges, draws); got != int64(i) || !ok {
				t.Errorf("Number(%v, %v) = %d, %t, not %d", ranges, draws, got, ok, i)
			}
		}
		if got := All(ranges); !slices.EqualFunc(got, want, slices.Equal[list]) {
			t.Errorf("All(%v) = %v, not %v", ranges, got, want)
		}
	}
}

// TestInverse checks that Sequence and Number are inverse to each other, and keep the order, for great weights.
func TestInverse(t *testing.T) {
	source := rand.New(rand.NewSource(77))
	for _, ranges := range greatRanges() {
		weight, ok := weightOf(ranges)
		if !ok {
			t.Fatalf("%v has no weight", ranges)
		}
		numbers := list{0, 1, 2, weight / 3, weight / 2, weight - 3, weight - 2, weight - 1}
		for range 200 {
			numbers = append(numbers, source.Int63n(weight))
		}
		slices.Sort(numbers)
		var before list
		for i, n := range numbers {
			draws, ok := Sequence(ranges, n)
			if !ok || len(draws) != len(ranges) {
				t.Fatalf("Sequence(%v, %d) = %v, %t", ranges, n, draws, ok)
			}
			if back, ok := Number(ranges, draws); back != n || !ok {
				t.Fatalf("Number(%v, Sequence(%d)) = %d, %t", ranges, n, back, ok)
			}
			if i > 0 && n > numbers[i-1] && slices.Compare(before, draws) >= 0 {
				t.Fatalf("with the ranges %v, number %d is %v, but number %d is %v", ranges, numbers[i-1], before, n, draws)
			}
			before = draws
		}
		for range 200 {
			draws := make(list, len(ranges))
			for i, m := range ranges {
				draws[i] = source.Int63n(m)
			}
			n, ok := Number(ranges, draws)
			if !ok || n < 0 || n >= weight {
				t.Fatalf("Number(%v, %v) = %d, %t", ranges, draws, n, ok)
			}
			if back, ok := Sequence(ranges, n); !slices.Equal(back, draws) || !ok {
				t.Fatalf("Sequence(%v, Number(%v)) = %v, %t", ranges, draws, back, ok)
			}
		}
	}
}

func TestAll(t *testing.T) {
	for _, c := range []struct {
		ranges list
		want   []list
	}{
		{list{2, 1, 2}, []list{{0, 0, 0}, {0, 0, 1}, {1, 0, 0}, {1, 0, 1}}}, {list{2, 3}, []list{{0, 0}, {0, 1}, {0, 2}, {1, 0}, {1, 1}, {1, 2}}}, {list{3}, []list{{0}, {1}, {2}}},
		// Ranges of 1, and no ranges: the only sequence is the empty one.
		{list{1}, []list{{0}}}, {list{1, 1, 1}, []list{{0, 0, 0}}}, {ones(1000), []list{zeros(1000)}}, {nil, []list{nil}}, {list{}, []list{nil}},
	} {
		if got := All(c.ranges); !slices.EqualFunc(got, c.want, slices.Equal[list]) {
			t.Errorf("All(%v) = %v, not %v", c.ranges, got, c.want)
		}
	}
}

// TestAllUpToMaxLeaves checks the greatest lists: they are complete, each sequence comes once, and the order is lexicographic.
func TestAllUpToMaxLeaves(t *testing.T) {
	for _, ranges := range []list{{100000}, {1, 100000}, {100000, 1}, {99999}, {2, 50000}, {50000, 2}, {10, 10, 10, 10, 10}, {5, 5, 5, 5, 5, 2, 2, 2, 2, 2}, {316, 316}, slices.Repeat(list{2}, 16)} {
		weight, _ := weightOf(ranges)
		all := All(ranges)
		if int64(len(all)) != weight {
			t.Fatalf("All(%v) has %d sequences of %d", ranges, len(all), weight)
		}
		for i, draws := range all {
			if i > 0 && slices.Compare(all[i-1], draws) >= 0 {
				t.Fatalf("All(%v) has %v before %v", ranges, all[i-1], draws)
			}
			if n, ok := Number(ranges, draws); n != int64(i) || !ok {
				t.Fatalf("All(%v) has %v at %d", ranges, draws, i)
			}
			if same, ok := Sequence(ranges, int64(i)); !slices.Equal(same, draws) || !ok {
				t.Fatalf("All(%v) has %v at %d, and Sequence returns %v, %t", ranges, draws, i, same, ok)
			}
		}
	}
}

func TestAllAboveMaxLeaves(t *testing.T) {
	for _, ranges := range append(greatRanges(), list{100001}, list{1, 100001}, list{100001, 1}, list{2, 50001}, list{50001, 2}, list{11, 9091}, list{317, 317}, list{100000, 2}, list{2, 100000}, slices.Repeat(list{2}, 17), list{1 << 32}, list{1<<32 + 5}) {
		if _, ok := Weight(ranges); !ok {
			t.Errorf("Weight(%v) reports false", ranges)
		}
		if got := All(ranges); got != nil {
			t.Errorf("All(%v) has %d sequences", ranges, len(got))
		}
	}
}

// guarded returns a list that has other numbers before it and behind it in memory, and a function that reports whether any of these, or the list, has changed.
func guarded(x list) (list, func() bool) {
	memory := slices.Concat(list{9, 1}, x, list{4, 2, 7})
	before := slices.Clone(memory)
	return memory[2 : 2+len(x)], func() bool { return !slices.Equal(memory, before) }
}

// TestArguments checks that the elements of lists, and the memory before and behind them, stay as they are, and that what lies beside them does not matter.
func TestArguments(t *testing.T) {
	for _, ranges := range append(append(badRanges(), smallRanges()...), greatRanges()...) {
		r, rangesChanged := guarded(ranges)
		w, ok := Weight(r)
		if alone, aloneOK := Weight(slices.Clone(ranges)); alone != w || aloneOK != ok {
			t.Errorf("Weight(%v) = %d, %t and %d, %t", ranges, w, ok, alone, aloneOK)
		}
		for _, n := range (list{0, w - 1, w, -1}) {
			s, ok := Sequence(r, n)
			if alone, aloneOK := Sequence(slices.Clone(ranges), n); !slices.Equal(alone, s) || aloneOK != ok {
				t.Errorf("Sequence(%v, %d) = %v, %t and %v, %t", ranges, n, s, ok, alone, aloneOK)
			}
			d, drawsChanged := guarded(s)
			back, ok := Number(r, d)
			if alone, aloneOK := Number(slices.Clone(ranges), slices.Clone(s)); alone != back || aloneOK != ok {
				t.Errorf("Number(%v, %v) = %d, %t and %d, %t", ranges, s, back, ok, alone, aloneOK)
			}
			for at := -1; at <= len(d); at++ {
				Next(d, at, 2)
			}
			if drawsChanged() {
				t.Errorf("a call with the draws %v changed them, or what lies beside them", s)
			}
		}
		All(r)
		if rangesChanged() {
			t.Errorf("a call with the ranges %v changed them, or what lies beside them", ranges)
		}
	}
}

// TestResultsAreNew checks that results share no memory with the arguments or with each other.
func TestResultsAreNew(t *testing.T) {
	ranges := list{2, 3, 2}
	all, want := All(ranges), walk(ranges)
	for i := range all {
		for j := range all[i] {
			all[i][j] = -5
		}
		all[i] = append(all[i], -6, -7)
		if !slices.EqualFunc(all[i+1:], want[i+1:], slices.Equal[list]) {
			t.Fatalf("a change of the sequence %d of All changes others: %v", i, all)
		}
	}
	a, _ := Sequence(ranges, 7)
	b, _ := Sequence(ranges, 7)
	for i := range a {
		a[i] = -5
	}
	if !slices.Equal(b, list{1, 0, 1}) || !slices.Equal(ranges, list{2, 3, 2}) {
		t.Errorf("a change of a sequence changes another one to %v, or the ranges to %v", b, ranges)
	}
	if again := All(ranges); !slices.EqualFunc(again, want, slices.Equal[list]) {
		t.Errorf("a second call returns %v", again)
	}
}
