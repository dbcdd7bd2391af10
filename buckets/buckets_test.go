package buckets

import (
	"math"
	"math/big"
	"math/rand"
	"slices"
	"testing"

	"windowpane/api"
)

const (
	least  = math.MinInt64
	most   = math.MaxInt64
	last   = 1 << 24 // the last tick
	top    = 30      // the greatest level
	full   = 1 << 30 // the greatest total
	unit   = 1024    // the greatest number of unit items of one call
	widest = 128     // the greatest k
)

// bk returns the list of buckets with these ticks and levels in turn.
func bk(numbers ...int64) []api.Bucket {
	var list []api.Bucket
	for i := 0; i < len(numbers); i += 2 {
		list = append(list, api.Bucket{T: numbers[i], Level: int(numbers[i+1])})
	}
	return list
}

// shaped returns a list with these numbers of buckets of the levels from 0 on, whose ticks are different and end at tick end.
func shaped(end int64, counts ...int) []api.Bucket {
	var list []api.Bucket
	for level := len(counts) - 1; level >= 0; level-- {
		for range counts[level] {
			list = append(list, api.Bucket{Level: level})
		}
	}
	for i := range list {
		list[i].T = end - int64(len(list)-1-i)
	}
	return list
}

// repeated returns a list of n numbers.
func repeated(v, n int) []int {
	list := make([]int, n)
	for i := range list {
		list[i] = v
	}
	return list
}

// even returns the list that has n buckets of each of these levels and of all lesser ones.
func even(end int64, n, level int) []api.Bucket {
	return shaped(end, repeated(n, level+1)...)
}

// levels returns the levels of a list.
func levels(list []api.Bucket) []int {
	var out []int
	for _, b := range list {
		out = append(out, b.Level)
	}
	return out
}

// tick and width say which ticks and which k are valid.
func tick(t int64) bool { return t > -1 && t < 16777217 }
func width(k int) bool  { return k > 0 && k < 129 }

// having returns how many buckets of a list have a level.
func having(list []api.Bucket, level int) int {
	n := 0
	for _, b := range list {
		if b.Level == level {
			n++
		}
	}
	return n
}

// valid says which lists are valid, pair by pair and level by level.
func valid(list []api.Bucket, k int) bool {
	for i, b := range list {
		if !tick(b.T) || b.Level < 0 || b.Level > 30 || i > 0 && (list[i-1].T > b.T || list[i-1].Level < b.Level) {
			return false
		}
	}
	if len(list) == 0 || !width(k) {
		return width(k)
	}
	for level := 0; level < list[0].Level; level++ {
		if n := having(list, level); n != k && n != k+1 {
			return false
		}
	}
	return having(list, list[0].Level) < k+2
}

// total adds up the sizes of a list by doubling.
func total(list []api.Bucket) int64 {
	sum := int64(0)
	for _, b := range list {
		size := int64(1)
		for range b.Level {
			size += size
		}
		if b.Level >= 0 && b.Level <= 30 {
			sum += size
		}
	}
	return sum
}

// inserted is Insert for a list that it takes, word by word: it searches for the two oldest buckets of each level.
func inserted(list []api.Bucket, k int, t int64) []api.Bucket {
	list = append(slices.Clone(list), api.Bucket{T: t})
	for level := 0; ; level++ {
		var at []int
		for i, b := range list {
			if b.Level == level {
				at = append(at, i)
			}
		}
		if len(at) < k+2 {
			return list
		}
		newer := list[at[1]].T
		list = slices.Concat(list[:at[0]], []api.Bucket{{T: newer, Level: level + 1}}, list[at[0]+1:at[1]], list[at[1]+1:])
	}
}

// insertedMany is InsertMany by the words of the chapter; false reports that there is no result.
func insertedMany(list []api.Bucket, k int, t, n int64) ([]api.Bucket, bool) {
	if !valid(list, k) || !tick(t) || len(list) > 0 && list[len(list)-1].T > t || n < 0 || n > 1024 {
		return nil, false
	}
	sum := total(list)
	for i := range n {
		if sum+i >= 1073741824 {
			return nil, false
		}
		list = inserted(list, k, t)
	}
	return list, true
}

func whole(lo, est, hi int64) api.Bounds {
	return api.Bounds{Lo: api.Ratio{Num: lo, Den: 1}, Est: api.Ratio{Num: est, Den: 1}, Hi: api.Ratio{Num: hi, Den: 1}}
}

// edges returns the numbers around all limits.
func edges() []int64 {
	var list []int64
	for d := int64(-2); d <= 2; d++ {
		list = append(list, d, top+d, 64+d, widest+d, unit+d, last+d, full+d, 1<<32+d, math.MaxInt32+d, math.MinInt32+d, -last+d)
	}
	for d := range int64(3) {
		list = append(list, least+d, most-d)
	}
	return list
}

// checkMany compares InsertMany and, for one unit item, Insert with the words of the chapter.
func checkMany(t *testing.T, list []api.Bucket, k int, at, n int64) []api.Bucket {
	t.Helper()
	want, _ := insertedMany(list, k, at, n)
	got := InsertMany(list, k, at, n)
	if !slices.Equal(got, want) {
		t.Fatalf("InsertMany(%v, %d, %d, %d) = %v, not %v", list, k, at, n, got, want)
	}
	if n != 1 {
		return got
	}
	if one := Insert(list, k, at); !slices.Equal(one, want) {
		t.Fatalf("Insert(%v, %d, %d) = %v, not %v", list, k, at, one, want)
	}
	return got
}

func TestValidLists(t *testing.T) {
	for i, c := range []struct {
		list []api.Bucket
		k    int
	}{
		{nil, 1}, {nil, 2}, {nil, 64}, {nil, widest - 1}, {nil, widest}, {[]api.Bucket{}, 1},
		{bk(0, 0), 1}, {bk(0, 0), widest}, {bk(last, 0), 1}, {bk(0, 0, 0, 0), 1}, {bk(0, 0, last, 0), 1}, {bk(last, 0, last, 0), 1}, {bk(last-1, 0, last, 0), 2},
		{bk(1, 1, 2, 0), 1}, {bk(1, 1, 1, 0), 1}, {bk(0, 1, 0, 1, 0, 0, 0, 0), 1}, {bk(0, 2, 0, 1, last, 0), 1},
		// The first level has from 1 to k + 1 buckets, the others have k or k + 1.
		{shaped(9, 1), 3}, {shaped(9, 2), 3}, {shaped(9, 3), 3}, {shaped(9, 4), 3}, {shaped(9, 3, 1), 3}, {shaped(9, 4, 1), 3}, {shaped(9, 3, 2), 3}, {shaped(9, 4, 4), 3}, {shaped(20, 3, 4, 3, 4, 1), 3}, {shaped(20, 4, 3, 4, 3, 4), 3}, {shaped(9, 2, 1), 2}, {shaped(9, 3, 3), 2},
		{shaped(999, widest), widest}, {shaped(999, widest+1), widest}, {shaped(999, widest, 1), widest}, {shaped(999, widest+1, widest+1), widest}, {shaped(999, 1), widest},
		// All levels: from the least total to the greatest one.
		{even(last, 1, top), 1}, {even(99, 2, top), 1}, {even(last, widest, top), widest}, {even(last, widest+1, top), widest}, {shaped(last, append(repeated(widest, top), 1)...), widest}, {shaped(last, append(repeated(2, top), 1)...), 1},
	} {
		if !Valid(c.list, c.k) {
			t.Errorf("list %d is not valid for %d: %v", i, c.k, c.list)
		}
	}
}

// invalid is a list that is not valid for k.
type invalid struct {
	list []api.Bucket
	k    int
}

func invalidLists() []invalid {
	list := []invalid{
		{bk(-1, 0), 1}, {bk(last+1, 0), 1}, {bk(least, 0), 1}, {bk(most, 0), 1}, {bk(1<<32, 0), 1}, {bk(-1, 0, 0, 0), 1}, {bk(0, 0, last+1, 0), 1}, {bk(0, 0, -1, 0), 1},
		{bk(1, 0, 0, 0), 1}, {bk(last, 0, 0, 0), 1}, {bk(2, 1, 1, 0), 1}, {bk(2, 1, 1, 1, 2, 0), 1}, {bk(0, 1, 5, 0, 4, 0), 1}, {bk(3, 2, 3, 1, 2, 0), 1},
		{bk(0, 0, 0, 1), 1}, {bk(1, 0, 2, 1), 1}, {bk(1, 1, 2, 0, 3, 1), 1}, {bk(0, 1, 0, 2, 0, 0), 1}, {bk(0, 0, 0, 30), 1},
		{bk(0, -1), 1}, {bk(0, least), 1}, {bk(0, 0, 0, -1), 1}, {bk(0, 1, 0, 0, 0, -1), 1}, {bk(0, -1, 0, 0), 1}, {bk(0, 31), 1}, {bk(0, 32), 1}, {bk(0, 64), 1}, {bk(0, most), 1}, {bk(0, 1<<32), 1}, {bk(0, 31, 0, 0), 1}, {bk(0, 0, 0, 31), 1}, {append(bk(0, 31), even(99, 1, top)...), 1},
		// A lesser level is missing, has too few buckets or too many.
		{bk(0, 1), 1}, {bk(0, 30), 1}, {bk(0, 2, 0, 0), 1}, {bk(0, 2, 0, 1), 1}, {bk(0, 1, 0, 1), 1}, {bk(0, 3, 0, 2, 0, 0), 1}, {bk(0, 2, 0, 0, 0, 0), 1},
		{shaped(9, 3), 1}, {shaped(9, 3, 1), 1}, {shaped(9, 1, 3), 1}, {shaped(9, 5), 3}, {shaped(9, 2, 1), 3}, {shaped(9, 2, 4), 3}, {shaped(9, 5, 1), 3}, {shaped(9, 3, 5), 3}, {shaped(20, 3, 2, 1), 3}, {shaped(20, 3, 5, 1), 3}, {shaped(20, 2, 3, 1), 3}, {shaped(20, 5, 3, 1), 3}, {shaped(20, 3, 0, 3), 3}, {shaped(20, 0, 3, 3), 3}, {shaped(20, 3, 3, 5), 3}, {shaped(9, 0, 1), 2}, {shaped(9, 1, 1), 2},
		{shaped(999, widest+2), widest}, {shaped(999, widest-1, 1), widest}, {shaped(999, widest+2, 1), widest}, {shaped(999, widest, widest+2), widest},
		{even(99, 1, top), 2}, {even(999, 3, top), 1}, {shaped(99, append(repeated(1, top), 3)...), 1}, {shaped(99, append(repeated(1, top-1), 3, 1)...), 1}, {shaped(99, append(repeated(1, top-1), 0, 1)...), 1},
	}
	for _, k := range []int{0, -1, -2, widest + 1, widest + 2, -widest, least, least + 1, most, most - 1, 1 << 32, 1<<32 + 1, math.MaxInt32, 256 + 1} {
		list = append(list, invalid{nil, k}, invalid{bk(0, 0), k}, invalid{bk(1, 1, 2, 0), k})
	}
	return list
}

func TestInvalidLists(t *testing.T) {
	for i, c := range invalidLists() {
		if Valid(c.list, c.k) {
			t.Errorf("list %d is valid for %d: %v", i, c.k, c.list)
		}
		for _, at := range []int64{0, 5, 999, last, -1, last + 1} {
			if got := Insert(c.list, c.k, at); len(got) != 0 {
				t.Errorf("list %d: Insert(%v, %d, %d) = %v", i, c.list, c.k, at, got)
			}
			for _, n := range []int64{0, 1, 2, unit, unit + 1, -1} {
				if got := InsertMany(c.list, c.k, at, n); len(got) != 0 {
					t.Errorf("list %d: InsertMany(%v, %d, %d, %d) = %v", i, c.list, c.k, at, n, got)
				}
			}
		}
	}
}

// eachList calls try with all lists of up to n of these buckets.
func eachList(n int, kinds []api.Bucket, try func([]api.Bucket)) {
	var extend func(list []api.Bucket)
	extend = func(list []api.Bucket) {
		try(list)
		if len(list) == n {
			return
		}
		for _, b := range kinds {
			extend(append(slices.Clip(list), b))
		}
	}
	extend(nil)
}

func TestValidOfAllSmallLists(t *testing.T) {
	seen := map[bool]int{}
	try := func(list []api.Bucket) {
		for k := -1; k <= 4; k++ {
			want := valid(list, k)
			seen[want]++
			if Valid(list, k) != want {
				t.Fatalf("Valid(%v, %d) is %t", list, k, !want)
			}
		}
	}
	eachList(7, bk(3, -1, 3, 0, 3, 1, 3, 2, 3, 3), try)
	eachList(4, bk(-1, 0, 0, 0, 1, 0, 2, 0, 0, 1, 1, 1, 2, 1, -1, 1), try)
	eachList(3, bk(last, 0, last+1, 0, last-1, 0, last, 1, last-1, 1, last, 30, last, 31), try)
	if seen[true] < 200 || seen[false] < 10000 {
		t.Errorf("the results are too much alike: %v", seen)
	}
}

func TestValidAroundTheLimits(t *testing.T) {
	for _, n := range edges() {
		if Valid(nil, int(n)) != width(int(n)) {
			t.Errorf("the empty list and the number %d", n)
		}
		for _, list := range [][]api.Bucket{bk(n, 0), bk(0, 0, n, 0), bk(n, 0, last, 0), bk(n, 1, n, 0), bk(0, n), bk(0, n, 0, 0), bk(0, 0, 0, n), bk(0, 1, 0, 0, 0, n)} {
			for _, k := range []int{1, 2, widest} {
				if Valid(list, k) != valid(list, k) {
					t.Errorf("Valid(%v, %d) is %t", list, k, !valid(list, k))
				}
			}
		}
	}
}

// TestValidOfSpoiltLists changes one bucket of a long valid list.
func TestValidOfSpoiltLists(t *testing.T) {
	source := rand.New(rand.NewSource(21))
	seen := map[bool]int{}
	for range 3000 {
		k := 1 + source.Intn(6)
		list := randomList(source, k, 1+source.Intn(12))
		if !Valid(list, k) {
			t.Fatalf("Valid(%v, %d) is false", list, k)
		}
		i := source.Intn(len(list))
		switch source.Intn(5) {
		case 0:
			list[i].Level += source.Intn(3) - 1
		case 1:
			list[i].T += source.Int63n(5) - 2
		case 2:
			list = slices.Delete(list, i, i+1)
		case 3:
			list = slices.Insert(list, i, list[i])
		case 4:
			k += source.Intn(3) - 1
		}
		want := valid(list, k)
		seen[want]++
		if Valid(list, k) != want {
			t.Fatalf("Valid(%v, %d) is %t", list, k, !want)
		}
	}
	if seen[true] < 300 || seen[false] < 300 {
		t.Errorf("the results are too much alike: %v", seen)
	}
}

// randomList returns a valid list of so many levels, with ticks that often repeat.
func randomList(source *rand.Rand, k, n int) []api.Bucket {
	counts := make([]int, n)
	for level := range counts {
		counts[level] = k + source.Intn(2)
	}
	counts[n-1] = 1 + source.Intn(k+1)
	list := shaped(0, counts...)
	at := source.Int63n(5)
	for i := range list {
		at += max(0, source.Int63n(5)-2)
		list[i].T = at
	}
	return list
}

func TestTotal(t *testing.T) {
	for i, c := range []struct {
		list []api.Bucket
		want int64
	}{
		{nil, 0}, {[]api.Bucket{}, 0}, {bk(0, 0), 1}, {bk(0, 1), 2}, {bk(0, 29), 536870912}, {bk(0, 30), 1073741824}, {bk(4, 2, 6, 1, 7, 0), 7}, {bk(0, 30, 0, 30, 0, 30, 0, 30), 4294967296},
		{even(last, 1, top-1), 1073741823}, {even(last, 1, top), 2147483647}, {even(last, widest+1, top), 129 * 2147483647},
		// Lists that are not in order, and levels that count as 0.
		{bk(9, 0, -5, 3, 2, 1), 11}, {bk(least, 0, most, 0), 2}, {bk(0, 31), 0}, {bk(0, -1), 0}, {bk(0, 1, 0, 0, 0, 31, 0, -1), 3}, {bk(0, 31, 0, -1, 0, 4), 16}, {bk(0, 32, 0, 62, 0, 63, 0, 64, 0, 65), 0}, {bk(0, most, 0, least, 0, 1<<32, 0, 1<<32+1, 0, 3), 8},
	} {
		if got := Total(c.list); got != c.want {
			t.Errorf("list %d: Total(%v) = %d, not %d", i, c.list, got, c.want)
		}
	}
	for _, n := range edges() {
		want := int64(5)
		if n >= 0 && n <= 30 {
			want += new(big.Int).Exp(big.NewInt(2), big.NewInt(n), nil).Int64()
		}
		if got := Total(bk(0, 0, 0, n, 0, 2)); got != want {
			t.Errorf("with the level %d: Total = %d, not %d", n, got, want)
		}
	}
	long := make([]api.Bucket, 100000)
	for i := range long {
		long[i].Level = 30
	}
	if got := Total(long); got != 107374182400000 {
		t.Errorf("Total of a long list = %d", got)
	}
}

func TestInsertExamples(t *testing.T) {
	for i, c := range []struct {
		k    int
		want [][]api.Bucket
	}{
		{1, [][]api.Bucket{bk(1, 0), bk(1, 0, 2, 0), bk(2, 1, 3, 0), bk(2, 1, 3, 0, 4, 0), bk(2, 1, 4, 1, 5, 0), bk(2, 1, 4, 1, 5, 0, 6, 0), bk(4, 2, 6, 1, 7, 0), bk(4, 2, 6, 1, 7, 0, 8, 0), bk(4, 2, 6, 1, 8, 1, 9, 0)}},
		{2, [][]api.Bucket{bk(1, 0), bk(1, 0, 2, 0), bk(1, 0, 2, 0, 3, 0), bk(2, 1, 3, 0, 4, 0), bk(2, 1, 3, 0, 4, 0, 5, 0), bk(2, 1, 4, 1, 5, 0, 6, 0), bk(2, 1, 4, 1, 5, 0, 6, 0, 7, 0), bk(2, 1, 4, 1, 6, 1, 7, 0, 8, 0), bk(2, 1, 4, 1, 6, 1, 7, 0, 8, 0, 9, 0), bk(4, 2, 6, 1, 8, 1, 9, 0, 10, 0)}},
	} {
		var list []api.Bucket
		for j, want := range c.want {
			list = Insert(list, c.k, int64(j)+1)
			if !slices.Equal(list, want) {
				t.Fatalf("case %d: after %d insertions there are %v, not %v", i, j+1, list, want)
			}
		}
	}
	var list []api.Bucket
	for i, want := range [][]int{{0}, {0, 0}, {1, 0}, {1, 0, 0}} {
		if list = Insert(list, 1, 5); !slices.Equal(levels(list), want) {
			t.Errorf("after %d insertions the levels are %v, not %v", i+1, levels(list), want)
		}
	}
}

func TestInsertThatMerges(t *testing.T) {
	for i, c := range []struct {
		list []api.Bucket
		k    int
		t    int64
		want []api.Bucket
	}{
		// At no level.
		{nil, 1, 0, bk(0, 0)}, {nil, widest, last, bk(last, 0)}, {[]api.Bucket{}, 1, 3, bk(3, 0)}, {bk(2, 1, 3, 0), 1, 3, bk(2, 1, 3, 0, 3, 0)}, {bk(0, 0), 1, last, bk(0, 0, last, 0)}, {bk(last, 0), 1, last, bk(last, 0, last, 0)},
		// At one level, where there is no greater one and where there is.
		{bk(1, 0, 2, 0), 1, 3, bk(2, 1, 3, 0)}, {bk(1, 1, 2, 0, 3, 0), 1, 4, bk(1, 1, 3, 1, 4, 0)}, {bk(7, 0, 7, 0), 1, 7, bk(7, 1, 7, 0)}, {bk(1, 0, 1, 0, 1, 0), 2, 2, bk(1, 1, 1, 0, 2, 0)}, {bk(1, 2, 2, 1, 3, 0, 4, 0), 1, 5, bk(1, 2, 2, 1, 4, 1, 5, 0)},
		// At several levels; all but the last case make a new greatest level.
		{bk(1, 1, 2, 1, 3, 0, 4, 0), 1, 5, bk(2, 2, 4, 1, 5, 0)}, {bk(1, 2, 2, 2, 3, 1, 4, 1, 5, 0, 6, 0), 1, 7, bk(2, 3, 4, 2, 6, 1, 7, 0)}, {bk(1, 1, 2, 1, 3, 1, 4, 0, 5, 0, 6, 0), 2, 7, bk(2, 2, 3, 1, 5, 1, 6, 0, 7, 0)}, {bk(1, 2, 3, 1, 4, 1, 5, 0, 6, 0), 1, 9, bk(1, 2, 4, 2, 6, 1, 9, 0)},
		// The cascade ends at the first level that has not too many buckets.
		{bk(1, 2, 2, 2, 3, 1, 4, 0, 5, 0), 1, 6, bk(1, 2, 2, 2, 3, 1, 5, 1, 6, 0)},
	} {
		if got := Insert(c.list, c.k, c.t); !slices.Equal(got, c.want) {
			t.Errorf("case %d: Insert(%v, %d, %d) = %v, not %v", i, c.list, c.k, c.t, got, c.want)
		}
		if got := InsertMany(c.list, c.k, c.t, 1); !slices.Equal(got, c.want) {
			t.Errorf("case %d: InsertMany(%v, %d, %d, 1) = %v, not %v", i, c.list, c.k, c.t, got, c.want)
		}
	}
}

func TestInsertManyExamples(t *testing.T) {
	some := bk(2, 1, 3, 0)
	for i, c := range []struct {
		list []api.Bucket
		k    int
		t, n int64
		want []api.Bucket
	}{
		{nil, 1, 3, 0, nil}, {[]api.Bucket{}, 1, 0, 0, nil}, {nil, 1, 3, 1, bk(3, 0)}, {nil, 1, 3, 2, bk(3, 0, 3, 0)}, {nil, 1, 3, 7, bk(3, 2, 3, 1, 3, 0)}, {nil, 1, 0, 5, bk(0, 1, 0, 1, 0, 0)}, {nil, 2, last, 4, bk(last, 1, last, 0, last, 0)},
		{some, 1, 3, 0, some}, {some, 1, last, 0, some}, {some, 1, 3, 1, bk(2, 1, 3, 0, 3, 0)}, {some, 1, 4, 2, bk(2, 1, 4, 1, 4, 0)}, {some, 1, 4, 4, bk(4, 2, 4, 1, 4, 0)},
		{nil, widest, 5, 129, shapedAt(5, 129)}, {nil, widest, 5, 130, shapedAt(5, 128, 1)},
		// 1024 = 2 + 2 + 4 + 8 + .. + 512, and with the greatest k 128 + 2 128 + 4 128 + 8 16.
		{nil, 1, 5, unit, shapedAt(5, 2, 1, 1, 1, 1, 1, 1, 1, 1, 1)}, {nil, widest, 5, unit, shapedAt(5, 128, 128, 128, 16)}, {nil, widest, 5, unit - 1, shapedAt(5, 129, 129, 129, 15)},
	} {
		if got := InsertMany(c.list, c.k, c.t, c.n); !slices.Equal(got, c.want) {
			t.Errorf("case %d: InsertMany(%v, %d, %d, %d) = %v, not %v", i, c.list, c.k, c.t, c.n, got, c.want)
		}
	}
}

// shapedAt is shaped with one tick for all buckets.
func shapedAt(at int64, counts ...int) []api.Bucket {
	list := shaped(at, counts...)
	for i := range list {
		list[i].T = at
	}
	return list
}

func TestInsertRefuses(t *testing.T) {
	list := bk(4, 2, 6, 1, 7, 0)
	for _, c := range []struct {
		list []api.Bucket
		k    int
	}{{list, 1}, {nil, 1}, {nil, widest}, {bk(last, 0), 1}, {bk(0, 0), 2}, {bk(last-1, 1, last-1, 0, last, 0), 1}, {bk(3, 1, 3, 0), 1}} {
		for _, at := range append(edges(), 3, 6, 7, 8) {
			for _, n := range append(edges(), 5) {
				checkMany(t, c.list, c.k, at, n)
			}
		}
	}
	for _, at := range []int64{6, 5, 0, -1, last + 1, least, most} {
		if len(Insert(list, 1, at))+len(InsertMany(list, 1, at, 0))+len(InsertMany(list, 1, at, 1)) != 0 {
			t.Errorf("a unit item of tick %d after %v is taken", at, list)
		}
	}
	for _, n := range []int64{-1, least, unit + 1, full, most, 1 << 32, 1<<32 + 1} {
		if got := InsertMany(list, 1, 7, n); len(got) != 0 {
			t.Errorf("InsertMany of %d = %v", n, got)
		}
	}
}

// eachShape calls try with a list of each valid shape with so many levels.
func eachShape(k, n int, try func(list []api.Bucket)) {
	var extend func(counts []int)
	extend = func(counts []int) {
		if len(counts) == n {
			try(shaped(100, counts...))
			return
		}
		from := k
		if len(counts) == n-1 {
			from = 1
		}
		for c := from; c <= k+1; c++ {
			extend(append(slices.Clip(counts), c))
		}
	}
	extend(nil)
}

func TestInsertIntoAllShapes(t *testing.T) {
	for k := 1; k <= 4; k++ {
		for n := range 7 {
			lists := 0
			eachShape(k, n, func(list []api.Bucket) {
				lists++
				for _, m := range []int64{0, 1, 2, 3, 7, 30} {
					checkMany(t, list, k, 100, m)
				}
				checkMany(t, list, k, 200, 1)
				checkMany(t, list, k, 99, 1)
				checkMany(t, list, k+1, 100, 1)
			})
			if n > 0 && lists != (k+1)<<(n-1) {
				t.Errorf("with k %d and %d levels there are %d lists", k, n, lists)
			}
		}
	}
}

func TestLongStreams(t *testing.T) {
	for _, c := range []struct{ k, n int }{{1, 3000}, {2, 3000}, {3, 2000}, {7, 2000}, {64, 1500}, {127, 1500}, {widest, 1500}} {
		var list []api.Bucket
		for i := range c.n {
			want := inserted(list, c.k, int64(i)/3)
			if list = Insert(list, c.k, int64(i)/3); !slices.Equal(list, want) {
				t.Fatalf("with k %d, after %d insertions there are %v, not %v", c.k, i+1, list, want)
			}
			if total(list) != int64(i+1) || !valid(list, c.k) {
				t.Fatalf("with k %d, after %d insertions the list is %v", c.k, i+1, list)
			}
		}
	}
}

// TestGreatCascade inserts where all levels but the first one merge, up to the greatest total.
func TestGreatCascade(t *testing.T) {
	list := even(last-1, 2, top-2)
	if total(list) != full-2 {
		t.Fatalf("the total is %d", total(list))
	}
	grown := checkMany(t, list, 1, last, 1)
	// The bucket of each level ends where the second one of the level below it did.
	want := shaped(last, repeated(1, top)...)
	for i := range len(want) - 1 {
		want[i].T = list[2*i+1].T
	}
	if !slices.Equal(grown, want) || total(grown) != full-1 {
		t.Fatalf("Insert(%v) = %v, not %v", list, grown, want)
	}
	fullest := checkMany(t, grown, 1, last, 1)
	if want := append(slices.Clone(want), api.Bucket{T: last}); !slices.Equal(fullest, want) {
		t.Fatalf("Insert(%v) = %v, not %v", grown, fullest, want)
	}
	if got := Insert(fullest, 1, last); len(got) != 0 {
		t.Errorf("Insert into a full list = %v", got)
	}
	if got := InsertMany(list, 1, last, 2); !slices.Equal(got, fullest) {
		t.Errorf("InsertMany(2) = %v", got)
	}
	if got := InsertMany(list, 1, last, 3); len(got) != 0 {
		t.Errorf("InsertMany(3) = %v", got)
	}
	if got := InsertMany(list, 1, last, 0); !slices.Equal(got, list) {
		t.Errorf("InsertMany(0) = %v", got)
	}
}

// fill returns a valid list for k with this total, whose ticks end at tick end.
func fill(end int64, k int, n int64) []api.Bucket {
	var counts []int
	for n > 0 {
		c := n
		if n > int64(k)+1 {
			c = int64(k) + (n-int64(k))%2
		}
		counts = append(counts, int(c))
		n = (n - c) / 2
	}
	return shaped(end, counts...)
}

func TestInsertUpToTheGreatestTotal(t *testing.T) {
	for _, k := range []int{1, 2, 3, 63, 64, 65, 127, widest} {
		for _, room := range []int64{0, 1, 2, 3, 100, unit - 1, unit, unit + 1} {
			list := fill(last-5, k, full-room)
			if !Valid(list, k) || total(list) != full-room {
				t.Fatalf("a list for %d and %d is not valid", k, room)
			}
			for _, n := range []int64{0, 1, 2, 3, 4, 100, 101, unit - 1, unit, unit + 1} {
				got := InsertMany(list, k, last-1, n)
				if n > room && n > 0 || n > unit {
					if len(got) != 0 {
						t.Fatalf("k %d: %d unit items are taken where there is room for %d", k, n, room)
					}
					continue
				}
				want, _ := insertedMany(list, k, last-1, n)
				if !slices.Equal(got, want) || Total(got) != full-room+n || !Valid(got, k) {
					t.Fatalf("k %d: InsertMany of %d where there is room for %d = %v, not %v", k, n, room, got, want)
				}
			}
			if got := Insert(list, k, last); (len(got) == 0) != (room == 0) {
				t.Fatalf("k %d: Insert where there is room for %d = %v", k, room, got)
			}
		}
	}
}

func TestInsertIntoListsThatAreTooGreat(t *testing.T) {
	for _, c := range []struct {
		list []api.Bucket
		k    int
	}{{even(last, 1, top), 1}, {even(99, 2, top), 1}, {even(last, widest+1, top), widest}, {shaped(last, append(repeated(2, top), 1)...), 2}, {even(99, 2, top-1), 1}} {
		if !Valid(c.list, c.k) {
			t.Fatalf("%v is not valid", c.list)
		}
		if len(Insert(c.list, c.k, last))+len(InsertMany(c.list, c.k, last, 1))+len(InsertMany(c.list, c.k, last, unit)) != 0 {
			t.Errorf("a unit item after %v is taken", c.list)
		}
		if got := InsertMany(c.list, c.k, last, 0); !slices.Equal(got, c.list) {
			t.Errorf("InsertMany of 0 = %v, not %v", got, c.list)
		}
		for _, at := range []int64{-1, last + 1, c.list[len(c.list)-1].T - 1} {
			if got := InsertMany(c.list, c.k, at, 0); len(got) != 0 {
				t.Errorf("InsertMany of 0 at tick %d = %v", at, got)
			}
		}
	}
}

func TestExpire(t *testing.T) {
	list := bk(1, 2, 3, 2, 3, 1, 5, 1, 6, 0, 6, 0, last, 0)
	for i, c := range []struct {
		list  []api.Bucket
		first int64
		from  int // the first bucket that stays
	}{
		{list, 0, 0}, {list, -1, 0}, {list, least, 0}, {list, 1, 0}, {list, 2, 1}, {list, 3, 1}, {list, 4, 3}, {list, 5, 3}, {list, 6, 4}, {list, 7, 6}, {list, last, 6}, {list, last + 1, 7}, {list, most, 7},
		{nil, 0, 0}, {nil, most, 0}, {nil, least, 0}, {[]api.Bucket{}, 5, 0}, {bk(0, 0), 0, 0}, {bk(0, 0), 1, 1}, {bk(last, 0), last, 0},
		// Lists that are not in order: a bucket that stays keeps all behind it.
		{bk(5, 0, 1, 0, 7, 0), 3, 0}, {bk(1, 0, 5, 0, 1, 0, 2, 0), 3, 1}, {bk(1, 3, 2, 9, 3, -1, 0, 31), 3, 2}, {bk(-4, 0, -3, 0, -5, 0), -3, 1}, {bk(least, 0, most, 0), most, 1}, {bk(least, 0, most, 0), least, 0}, {bk(least, 0, most, 0), least + 1, 1},
	} {
		if got := Expire(c.list, c.first); !slices.Equal(got, c.list[c.from:]) {
			t.Errorf("case %d: Expire(%v, %d) = %v", i, c.list, c.first, got)
		}
	}
	long := even(last, widest+1, top)
	for i, b := range long {
		if got := Expire(long, b.T); !slices.Equal(got, long[i:]) {
			t.Errorf("Expire of a long list at tick %d has %d buckets", b.T, len(got))
		}
	}
	eachList(4, bk(1, 0, 2, 1, 3, 0), func(list []api.Bucket) {
		for first := int64(0); first <= 4; first++ {
			from := slices.IndexFunc(list, func(b api.Bucket) bool { return b.T >= first })
			if from < 0 {
				from = len(list)
			}
			if got := Expire(list, first); !slices.Equal(got, list[from:]) {
				t.Fatalf("Expire(%v, %d) = %v", list, first, got)
			}
		}
	})
}

func TestQuery(t *testing.T) {
	for i, c := range []struct {
		list []api.Bucket
		want api.Bounds
	}{
		{nil, whole(0, 0, 0)}, {[]api.Bucket{}, whole(0, 0, 0)}, {bk(0, 0), whole(1, 1, 1)}, {bk(9, 0, 9, 0, 9, 0), whole(3, 3, 3)}, {bk(2, 1, 3, 0, 4, 0), whole(3, 3, 4)}, {bk(2, 1, 3, 0), whole(2, 2, 3)}, {bk(4, 2, 6, 1, 7, 0), whole(4, 5, 7)}, {bk(1, 2, 1, 2, 6, 1, 7, 0), whole(8, 9, 11)},
		{even(last, 1, top-1), whole(536870912, 805306367, 1073741823)}, {even(last, 1, top), whole(1073741824, 1610612735, 2147483647)},
		// Lists that are not valid, with levels from 0 to 30.
		{bk(0, 1), whole(1, 1, 2)}, {bk(0, 2), whole(1, 2, 4)}, {bk(0, 30), whole(1, 536870912, 1073741824)}, {bk(0, 0, 0, 5), whole(33, 33, 33)}, {bk(0, 3, 0, 30), whole(1073741825, 1073741828, 1073741832)}, {bk(5, 1, 4, 0, 3, 1, most, 0, least, 0), whole(6, 6, 7)}, {bk(0, 30, 0, 30, 0, 30), whole(2147483649, 2684354560, 3221225472)},
	} {
		if got := Query(c.list); got != c.want {
			t.Errorf("list %d: Query(%v) = %v, not %v", i, c.list, got, c.want)
		}
	}
	long := make([]api.Bucket, 100000)
	for i := range long {
		long[i].Level = 30
	}
	if got := Query(long); got != whole(107373108658177, 107373645529088, 107374182400000) {
		t.Errorf("Query of a long list = %v", got)
	}
}

// TestQueryReturns asks for lists of which nothing else is promised.
func TestQueryReturns(t *testing.T) {
	for _, n := range edges() {
		for _, list := range [][]api.Bucket{bk(0, n), bk(0, n, 0, 0), bk(0, 0, 0, n), bk(0, 30, 0, n, 0, -n), bk(n, n, n, n, n, n)} {
			Query(list)
		}
	}
}

func TestQueryOfAllShapes(t *testing.T) {
	for k := 1; k <= 3; k++ {
		for n := 1; n <= 7; n++ {
			eachShape(k, n, func(list []api.Bucket) {
				hi := total(list)
				lo := hi - total(list[:1]) + 1
				if got := Query(list); got != whole(lo, (lo+hi)/2, hi) {
					t.Fatalf("Query(%v) = %v", list, got)
				}
				if int64(k)*(hi-lo) > lo {
					t.Fatalf("with k %d, the bounds of %v are %d and %d", k, list, lo, hi)
				}
			})
		}
	}
}

func TestCounts(t *testing.T) {
	for i, c := range []struct {
		list []api.Bucket
		want []int
	}{
		{nil, nil}, {[]api.Bucket{}, nil}, {bk(0, 0), []int{1}}, {bk(0, 0, 0, 0), []int{2}}, {bk(4, 2, 6, 1, 7, 0), []int{1, 1, 1}}, {bk(2, 1, 4, 1, 5, 0), []int{1, 2}}, {bk(2, 1, 3, 0, 4, 0), []int{2, 1}}, {shaped(99, 3, 4, 3, 1), []int{3, 4, 3, 1}},
		{even(last, 1, top), repeated(1, 31)}, {even(last, widest+1, top), repeated(129, 31)},
		// Lists that are not valid, with levels from 0 to 30.
		{bk(4, 2), []int{0, 0, 1}}, {bk(4, 3, 4, 0), []int{1, 0, 0, 1}}, {bk(4, 3, 4, 1), []int{0, 1, 0, 1}}, {bk(0, 30), append(repeated(0, 30), 1)}, {bk(9, 2, 8, 0, -7, 2, most, 0, least, 1), []int{2, 1, 2}}, {bk(0, 0, 0, 1, 0, 0), []int{2}}, {bk(0, 1, 0, 30, 0, 0, 0, 1), []int{1, 2}}, {shaped(9, 7, 9), []int{7, 9}},
		// A level that is out of range.
		{bk(0, 31), nil}, {bk(0, -1), nil}, {bk(0, 1, 0, -1), nil}, {bk(0, 1, 0, 31), nil}, {bk(0, 31, 0, 1), nil}, {bk(0, -1, 0, 1), nil}, {bk(0, 30, 0, 0, 0, 0, 0, 32), nil}, {bk(0, most), nil}, {bk(0, least), nil}, {bk(0, 3, 0, 1<<32), nil}, {bk(0, 3, 0, 64), nil},
	} {
		if got := Counts(c.list); !slices.Equal(got, c.want) {
			t.Errorf("list %d: Counts(%v) = %v, not %v", i, c.list, got, c.want)
		}
	}
	for _, n := range edges() {
		var want []int
		if n >= 0 && n <= 30 {
			want = append(repeated(0, int(n)), 1)
			want[0]++
		}
		if got := Counts(bk(0, n, 0, 0)); !slices.Equal(got, want) {
			t.Errorf("with the level %d: Counts = %v, not %v", n, got, want)
		}
	}
	eachList(5, bk(0, 0, 5, 1, 2, 2, 3, 4), func(list []api.Bucket) {
		var want []int
		for level := 0; len(list) > 0 && level <= list[0].Level; level++ {
			want = append(want, having(list, level))
		}
		if got := Counts(list); !slices.Equal(got, want) {
			t.Fatalf("Counts(%v) = %v, not %v", list, got, want)
		}
	})
}

func TestCanonicalExamples(t *testing.T) {
	for _, c := range []struct {
		n    int64
		k    int
		want []int
	}{
		{0, 1, nil}, {0, widest, nil}, {1, 1, []int{1}}, {2, 1, []int{2}}, {3, 1, []int{1, 1}}, {4, 1, []int{2, 1}}, {5, 1, []int{1, 2}}, {6, 1, []int{2, 2}}, {7, 1, []int{1, 1, 1}},
		{1, 2, []int{1}}, {3, 2, []int{3}}, {4, 2, []int{2, 1}}, {10, 2, []int{2, 2, 1}}, {1, widest, []int{1}}, {129, widest, []int{129}}, {130, widest, []int{128, 1}}, {131, widest, []int{129, 1}}, {1024, widest, []int{128, 128, 128, 16}},
		{full, 1, append([]int{2}, repeated(1, 29)...)}, {full - 1, 1, repeated(1, 30)}, {full - 2, 1, repeated(2, 29)},
	} {
		if got := Canonical(c.n, c.k); !slices.Equal(got, c.want) {
			t.Errorf("Canonical(%d, %d) = %v, not %v", c.n, c.k, got, c.want)
		}
	}
	for _, n := range []int64{-1, -2, least, full + 1, full + 2, 1 << 32, 1<<32 + 5, most} {
		for _, k := range []int{1, 2, widest, 0, widest + 1} {
			if got := Canonical(n, k); len(got) != 0 {
				t.Errorf("Canonical(%d, %d) = %v", n, k, got)
			}
		}
	}
	for _, k := range []int{0, -1, -widest, widest + 1, widest + 2, least, most, 1<<32 + 1, math.MaxInt32} {
		for _, n := range []int64{0, 1, 2, 100, full, full + 1, -1} {
			if got := Canonical(n, k); len(got) != 0 {
				t.Errorf("Canonical(%d, %d) = %v", n, k, got)
			}
		}
	}
}

func TestCanonicalAgainstInsertions(t *testing.T) {
	for _, c := range []struct{ k, n int }{{1, 1500}, {2, 1500}, {3, 1500}, {4, 1000}, {5, 1000}, {16, 1000}, {64, 1000}, {127, 800}, {widest, 800}} {
		var list []api.Bucket
		for n := range c.n {
			var want []int
			for level := range levelsOf(list) {
				want = append(want, having(list, level))
			}
			if got := Canonical(int64(n), c.k); !slices.Equal(got, want) {
				t.Fatalf("Canonical(%d, %d) = %v, not %v", n, c.k, got, want)
			}
			if got := Counts(list); !slices.Equal(got, want) {
				t.Fatalf("Counts(%v) = %v, not %v", list, got, want)
			}
			list = inserted(list, c.k, 7)
		}
	}
}

// levelsOf returns how many levels a list has.
func levelsOf(list []api.Bucket) int {
	if len(list) == 0 {
		return 0
	}
	return list[0].Level + 1
}

// checkCanonical checks the shape and the total: for each total, only one shape is valid.
func checkCanonical(t *testing.T, n int64, k int) []int {
	t.Helper()
	counts := Canonical(n, k)
	sum, size := int64(0), int64(1)
	for level, c := range counts {
		sum, size = sum+int64(c)*size, size*2
		if c < 1 || c > k+1 || c < k && level < len(counts)-1 {
			t.Fatalf("Canonical(%d, %d) = %v, with %d buckets of level %d", n, k, counts, c, level)
		}
	}
	if sum != n {
		t.Fatalf("Canonical(%d, %d) = %v, which are %d", n, k, counts, sum)
	}
	return counts
}

// TestCanonicalWhereLevelsBegin checks the numbers around those where a level has its first bucket: all others have k then.
func TestCanonicalWhereLevelsBegin(t *testing.T) {
	for k := 1; k <= widest; k++ {
		for level := 0; ; level++ {
			begin := int64(k)*(1<<level-1) + 1<<level
			if begin > full {
				break
			}
			if got, want := checkCanonical(t, begin, k), append(repeated(k, level), 1); !slices.Equal(got, want) {
				t.Errorf("Canonical(%d, %d) = %v, not %v", begin, k, got, want)
			}
			if got, want := checkCanonical(t, begin-1, k), repeated(k+1, level); !slices.Equal(got, want) {
				t.Errorf("Canonical(%d, %d) = %v, not %v", begin-1, k, got, want)
			}
			for d := int64(-5); d <= 5; d++ {
				if n := begin + d; n >= 0 && n <= full {
					checkCanonical(t, n, k)
				}
			}
		}
		for d := range int64(5) {
			checkCanonical(t, full-d, k)
		}
	}
	source := rand.New(rand.NewSource(22))
	for range 20000 {
		checkCanonical(t, source.Int63n(full+1)>>source.Intn(30), 1+source.Intn(widest))
	}
}

func TestMost(t *testing.T) {
	for _, c := range []struct {
		k    int
		cap  int64
		want int
	}{
		{1, 0, 0}, {1, 1, 2}, {1, 2, 4}, {1, 3, 4}, {1, 4, 6}, {1, 100, 14}, {2, 100, 21}, {widest, 0, 0}, {widest, 1, 129}, {widest, 100, 903}, {1, 1 << 16, 34}, {64, 1 << 16, 1105}, {1, full, 62}, {1, full - 1, 60}, {widest, full, 3999}, {1, most, 126}, {widest, most, 8127}, {widest, 1 << 62, 8127}, {widest, 1<<62 - 1, 7998},
		{0, 5, 0}, {0, 0, 0}, {-1, 5, 0}, {-2, 5, 0}, {least, 5, 0}, {widest + 1, 5, 0}, {most, 5, 0}, {1<<32 + 1, 5, 0}, {math.MaxInt32, most, 0}, {1, -1, 0}, {widest, -1, 0}, {1, least, 0}, {widest, least, 0}, {0, -1, 0}, {widest + 1, least, 0},
	} {
		if got := Most(c.k, c.cap); got != c.want {
			t.Errorf("Most(%d, %d) = %d, not %d", c.k, c.cap, got, c.want)
		}
	}
	for _, k := range edges() {
		for _, n := range edges() {
			want := 0
			if width(int(k)) && n >= 0 {
				want = (int(k) + 1) * big.NewInt(n).BitLen()
			}
			if got := Most(int(k), n); got != want {
				t.Errorf("Most(%d, %d) = %d, not %d", k, n, got, want)
			}
		}
	}
}

// checkInvariants checks what holds after each Insert and each Expire.
func checkInvariants(t *testing.T, list []api.Bucket, k int) {
	t.Helper()
	if !Valid(list, k) || !valid(list, k) {
		t.Fatalf("%v is not valid for %d", list, k)
	}
	if n := Total(list); n != total(list) || len(list) > Most(k, n) {
		t.Fatalf("the total of %v is %d, at most %d buckets with k %d", list, n, Most(k, n), k)
	}
	b := Query(list)
	if b.Lo.Den != 1 || b.Hi.Den != 1 || int64(k)*(b.Hi.Num-b.Lo.Num) > b.Lo.Num {
		t.Fatalf("the bounds of %v are %v with k %d", list, b, k)
	}
}

// live returns how many ticks are not less than first.
func live(ticks []int64, first int64) int64 {
	n := int64(0)
	for _, t := range ticks {
		if t >= first {
			n++
		}
	}
	return n
}

// checkTicks checks that the buckets stand for the newest unit items, in order, each with the tick of its newest one.
func checkTicks(t *testing.T, list []api.Bucket, ticks []int64) {
	t.Helper()
	end := int64(len(ticks))
	for i := len(list) - 1; i >= 0; i-- {
		if end < 1 || list[i].T != ticks[end-1] {
			t.Fatalf("bucket %d of %v does not end at item %d of %v", i, list, end, ticks)
		}
		end -= 1 << list[i].Level
	}
	if end < 0 {
		t.Fatalf("%v stands for more than the %d items that there are", list, len(ticks))
	}
}

// TestStreams inserts and removes buckets at random and compares the answers with the ticks of all unit items.
func TestStreams(t *testing.T) {
	source := rand.New(rand.NewSource(23))
	for range 120 {
		k := []int{1, 2, 3, 5, 64, widest}[source.Intn(6)]
		var list []api.Bucket
		var ticks []int64
		now, first := source.Int63n(3), int64(0)
		for range 150 {
			now += max(0, source.Int63n(6)-3)
			switch source.Intn(4) {
			case 0, 1:
				want := inserted(list, k, now)
				if list = Insert(list, k, now); !slices.Equal(list, want) {
					t.Fatalf("Insert = %v, not %v", list, want)
				}
				ticks = append(ticks, now)
			case 2:
				n := source.Int63n(20)
				before := Total(list)
				list = checkMany(t, list, k, now, n)
				for range n {
					ticks = append(ticks, now)
				}
				if Total(list) != before+n {
					t.Fatalf("the total %d grows by %d to %d", before, n, Total(list))
				}
			case 3:
				first = max(first, now-source.Int63n(40))
				removed, before := int64(0), list
				for _, b := range before {
					if b.T < first {
						removed += 1 << b.Level
					}
				}
				list = Expire(before, first)
				if Total(list) != Total(before)-removed || len(list) > 0 && list[0].T < first {
					t.Fatalf("Expire(%v, %d) = %v", before, first, list)
				}
			}
			checkInvariants(t, list, k)
			checkTicks(t, list, ticks)
			// All buckets that are left are live at first, and no live item is in one that has left.
			left := Expire(list, first)
			if b, n := Query(left), live(ticks, first); b.Lo.Num > n || b.Hi.Num < n {
				t.Fatalf("with %d live items, the bounds of %v are %v", n, left, b)
			}
		}
	}
}

// TestInvariantsOfAllShapes inserts into all shapes and expires at all of their ticks.
func TestInvariantsOfAllShapes(t *testing.T) {
	for k := 1; k <= 3; k++ {
		for n := range 7 {
			eachShape(k, n, func(list []api.Bucket) {
				checkInvariants(t, list, k)
				grown := Insert(list, k, 100)
				checkInvariants(t, grown, k)
				if Total(grown) != Total(list)+1 {
					t.Fatalf("the total of %v is that of %v and 1", grown, list)
				}
				for i := range list {
					rest := Expire(list, list[i].T)
					checkInvariants(t, rest, k)
					if Total(rest) != Total(list)-total(list[:i]) {
						t.Fatalf("Expire(%v, %d) = %v", list, list[i].T, rest)
					}
					checkMany(t, rest, k, 100, 1)
				}
				if rest := Expire(list, 101); len(rest) != 0 {
					t.Fatalf("Expire(%v, 101) = %v", list, rest)
				}
			})
		}
	}
}

func TestInvariantsOfGreatLists(t *testing.T) {
	source := rand.New(rand.NewSource(24))
	for range 300 {
		k := 1 + source.Intn(widest)
		list := fill(last-10, k, full-source.Int63n(3000))
		grown := InsertMany(list, k, last-source.Int63n(5), source.Int63n(1000))
		if len(grown) != 0 {
			list = grown
		}
		checkInvariants(t, list, k)
		for len(list) > 0 {
			first := list[source.Intn((len(list)+3)/4)].T + source.Int63n(2)
			list = Expire(list, first)
			checkInvariants(t, list, k)
			list = Insert(list, k, last)
			if len(list) == 0 || list[len(list)-1].T != last {
				t.Fatalf("Insert = %v", list)
			}
			checkInvariants(t, list, k)
			if list[0].T == last {
				break
			}
		}
	}
}

// calls returns all calls with a list.
func calls(k int) []func(list []api.Bucket) []api.Bucket {
	all := []func(list []api.Bucket) []api.Bucket{
		func(list []api.Bucket) []api.Bucket { Valid(list, k); return nil },
		func(list []api.Bucket) []api.Bucket { Total(list); return nil },
		func(list []api.Bucket) []api.Bucket { Query(list); return nil },
		func(list []api.Bucket) []api.Bucket { Counts(list); return nil },
	}
	for _, at := range []int64{4, 5, 7, 8, last, last + 1, -1} {
		all = append(all, func(list []api.Bucket) []api.Bucket { return Insert(list, k, at) }, func(list []api.Bucket) []api.Bucket { return Expire(list, at) })
		for _, n := range []int64{0, 1, 2, 3, 10, unit, unit + 1, -1} {
			all = append(all, func(list []api.Bucket) []api.Bucket { return InsertMany(list, k, at, n) })
		}
	}
	return all
}

// TestArguments checks that the buckets, and the memory before and behind them, stay as they are, and that this memory does not matter.
func TestArguments(t *testing.T) {
	lists := [][]api.Bucket{nil, bk(0, 0), bk(5, 0, 5, 0), bk(2, 1, 3, 0), bk(2, 1, 3, 0, 4, 0), bk(1, 1, 2, 1, 3, 0, 4, 0), bk(1, 2, 2, 2, 3, 1, 4, 1, 5, 0, 6, 0), bk(4, 2, 6, 1, 7, 0), even(5, 1, 5), shaped(5, 3, 3, 2), bk(0, 31), bk(0, -1, 7, 99), bk(5, 0, 4, 1), shaped(7, 5)}
	for _, list := range lists {
		n := len(list)
		memory := slices.Concat(bk(9, 9, 0, -4), list, bk(5, 2, 1, -9, 7, 7, 3, 3))
		before := slices.Clone(memory)
		for _, k := range []int{1, 2, 3, widest, 0} {
			for i, call := range calls(k) {
				want := slices.Clone(call(slices.Clone(list)))
				for end := 2 + n; end <= len(memory); end++ {
					got := call(memory[2 : 2+n : end])
					if !slices.Equal(got, want) {
						t.Fatalf("k %d, call %d with %v = %v, not %v", k, i, list, got, want)
					}
					if !slices.Equal(memory, before) {
						t.Fatalf("k %d, call %d with %v changed it, or what lies beside it: %v", k, i, list, memory)
					}
				}
			}
		}
	}
}

// TestBranches checks that the lists that were made from one do not disturb each other or the one that they came from.
func TestBranches(t *testing.T) {
	source := rand.New(rand.NewSource(25))
	for _, k := range []int{1, 2, 4} {
		lists, copies := [][]api.Bucket{nil}, [][]api.Bucket{nil}
		for range 2000 {
			from := lists[source.Intn(len(lists))]
			at := int64(0)
			if len(from) > 0 {
				at = from[len(from)-1].T
			}
			var to []api.Bucket
			switch source.Intn(6) {
			case 0:
				to = Expire(from, max(0, at-source.Int63n(8)))
			case 1:
				to = InsertMany(from, k, at+source.Int63n(3), source.Int63n(9))
			default:
				to = Insert(from, k, at+source.Int63n(3))
			}
			lists, copies = append(lists, to), append(copies, slices.Clone(to))
		}
		for i, list := range lists {
			if !slices.Equal(list, copies[i]) {
				t.Fatalf("k %d: list %d was %v and is %v", k, i, copies[i], list)
			}
			if !valid(list, k) {
				t.Fatalf("k %d: list %d is not valid: %v", k, i, list)
			}
		}
	}
}

func TestTwoListsOfOne(t *testing.T) {
	for _, k := range []int{1, 2, 3} {
		list := []api.Bucket(nil)
		for n := range int64(60) {
			origin := slices.Clone(list)
			a, b := Insert(list, k, 100), Insert(list, k, 200)
			c, d := InsertMany(list, k, 300, 0), InsertMany(list, k, 400, 20)
			rest := Expire(list, n/2)
			e, f := Insert(rest, k, 500), Insert(rest, k, 600)
			more := Insert(c, k, 700)
			twenty, _ := insertedMany(origin, k, 400, 20)
			left := Expire(origin, n/2)
			for i, p := range [][2][]api.Bucket{{list, origin}, {a, inserted(origin, k, 100)}, {b, inserted(origin, k, 200)}, {c, origin}, {d, twenty}, {rest, left}, {e, inserted(left, k, 500)}, {f, inserted(left, k, 600)}, {more, inserted(origin, k, 700)}} {
				if !slices.Equal(p[0], p[1]) {
					t.Fatalf("k %d, after %d insertions: list %d is %v, not %v", k, n, i, p[0], p[1])
				}
			}
			list = Insert(list, k, n)
		}
	}
}
