package clock

import (
	"math"
	"math/rand"
	"slices"
	"testing"

	"windowpane/api"
)

const (
	least = math.MinInt64
	most  = math.MaxInt64
	last  = api.MaxTick
	wide  = api.MaxWindow
)

// numbers returns the numbers around all limits, and some others.
func numbers() []int64 {
	list := []int64{-last, 1000, 123456, 1 << 32, -1 << 32, 1<<32 + 5, 1 << 62}
	for d := int64(-3); d <= 3; d++ {
		list = append(list, d, wide+d, last-wide+d, last/2+d, last+d)
	}
	for d := range int64(3) {
		list = append(list, least+d, most-d, least+wide+d, most-wide-d, least+last+d, most-last-d)
	}
	return list
}

// tick and window say which numbers are valid, with the limits written out.
func tick(n int64) bool   { return n > -1 && n < 16777217 }
func window(n int64) bool { return n > 0 && n < 1048577 }

// windowOf returns the ticks of a window, by a walk back from now that ends at tick 0. Now and w are valid.
func windowOf(now, w int64) []int64 {
	var list []int64
	for t := now; t >= 0 && int64(len(list)) < w; t-- {
		list = append(list, t)
	}
	return list
}

func TestAdvance(t *testing.T) {
	for _, c := range []struct {
		now, to, want int64
		err           api.Errno
	}{
		{0, 0, 0, api.OK}, {0, 1, 1, api.OK}, {3, 5, 5, api.OK}, {5, 5, 5, api.OK}, {0, last, last, api.OK}, {1, last, last, api.OK}, {last - 1, last, last, api.OK}, {last, last, last, api.OK}, {0, last - 1, last - 1, api.OK},
		// The clock does not go back, and not beyond the last tick.
		{5, 3, 0, api.ErrTime}, {1, 0, 0, api.ErrTime}, {last, 0, 0, api.ErrTime}, {last, last - 1, 0, api.ErrTime}, {0, -1, 0, api.ErrTime}, {5, -1, 0, api.ErrTime}, {5, least, 0, api.ErrTime}, {0, last + 1, 0, api.ErrTime}, {last, last + 1, 0, api.ErrTime}, {0, most, 0, api.ErrTime}, {last, most, 0, api.ErrTime},
		// Now is no tick; to is a tick.
		{-1, 5, 0, api.ErrArg}, {-1, 0, 0, api.ErrArg}, {least, 5, 0, api.ErrArg}, {least, last, 0, api.ErrArg},
		// Both errors apply, and the one about now comes first.
		{-1, -1, 0, api.ErrArg}, {-1, -2, 0, api.ErrArg}, {-1, last + 1, 0, api.ErrArg}, {least, least, 0, api.ErrArg}, {least, most, 0, api.ErrArg}, {last + 1, last + 1, 0, api.ErrArg}, {last + 1, last + 2, 0, api.ErrArg}, {last + 1, last, 0, api.ErrArg}, {last + 1, 0, 0, api.ErrArg}, {last + 1, -1, 0, api.ErrArg}, {most, most, 0, api.ErrArg}, {most, 0, 0, api.ErrArg}, {most, least, 0, api.ErrArg},
	} {
		if got, err := Advance(c.now, c.to); got != c.want || err != c.err {
			t.Errorf("Advance(%d, %d) = %d, %d, not %d, %d", c.now, c.to, got, err, c.want, c.err)
		}
	}
}

func TestAdvanceAroundTheLimits(t *testing.T) {
	seen := map[api.Errno]int{}
	for _, now := range numbers() {
		for _, to := range numbers() {
			want, wantErr := to, api.OK
			if !tick(to) || now > to {
				want, wantErr = 0, api.ErrTime
			}
			if !tick(now) {
				want, wantErr = 0, api.ErrArg
			}
			seen[wantErr]++
			if got, err := Advance(now, to); got != want || err != wantErr {
				t.Errorf("Advance(%d, %d) = %d, %d, not %d, %d", now, to, got, err, want, wantErr)
			}
		}
	}
	for _, err := range []api.Errno{api.OK, api.ErrArg, api.ErrTime} {
		if seen[err] < 100 {
			t.Errorf("the code %d is expected only %d times", err, seen[err])
		}
	}
}

func TestFirst(t *testing.T) {
	for _, c := range []struct{ now, w, want int64 }{
		{5, 3, 3}, {5, 1, 5}, {5, 2, 4}, {5, 5, 1}, {1, 1, 1}, {last, 1, last}, {last, 2, last - 1}, {last, wide, 15728641}, {last - 1, wide, 15728640}, {wide, wide, 1}, {wide + 1, wide, 2},
		// The window begins at tick 0, or would begin before it.
		{0, 1, 0}, {5, 6, 0}, {wide - 1, wide, 0}, {1, 3, 0}, {0, 2, 0}, {0, wide, 0}, {5, 7, 0}, {5, wide, 0}, {wide - 2, wide, 0},
		// There is no such window.
		{-1, 3, -1}, {-1, 1, -1}, {-1, wide, -1}, {least, 1, -1}, {least, 3, -1}, {least, wide, -1}, {last + 1, 3, -1}, {last + 1, 1, -1}, {last + 1, wide, -1}, {most, 1, -1}, {most, wide, -1},
		{5, 0, -1}, {0, 0, -1}, {last, 0, -1}, {5, -1, -1}, {5, -wide, -1}, {0, least, -1}, {5, least, -1}, {last, least, -1}, {5, wide + 1, -1}, {0, wide + 1, -1}, {last, wide + 1, -1}, {last, last, -1}, {5, most, -1}, {last, most, -1},
		{-1, 0, -1}, {least, least, -1}, {least, most, -1}, {most, least, -1}, {most, most, -1}, {last + 1, wide + 1, -1},
	} {
		if got := First(c.now, c.w); got != c.want {
			t.Errorf("First(%d, %d) = %d, not %d", c.now, c.w, got, c.want)
		}
	}
}

func TestLive(t *testing.T) {
	for _, c := range []struct {
		now, w, t int64
		want      bool
	}{
		// The last tick that is no longer live and the first that is; now and the tick after it.
		{5, 3, 2, false}, {5, 3, 3, true}, {5, 3, 4, true}, {5, 3, 5, true}, {5, 3, 6, false}, {5, 3, 0, false}, {last, 3, last - 3, false}, {last, 3, last - 2, true}, {last, 3, last, true}, {last, 3, last + 1, false},
		{5, 1, 4, false}, {5, 1, 5, true}, {5, 1, 6, false}, {0, 1, 0, true}, {0, 1, 1, false}, {last, 1, last - 1, false}, {last, 1, last, true}, {last, 1, last + 1, false},
		{last, wide, last - wide, false}, {last, wide, last - wide + 1, true}, {last, wide, last, true}, {last, wide, 0, false}, {wide, wide, 0, false}, {wide, wide, 1, true}, {wide - 1, wide, 0, true},
		// The window reaches back before tick 0.
		{1, 3, 0, true}, {1, 3, 1, true}, {1, 3, 2, false}, {1, 3, -1, false}, {0, 2, -1, false}, {0, wide, 0, true}, {0, wide, -1, false}, {0, wide, 1, false}, {5, wide, -1, false}, {5, wide, 6, false},
		// The number is no tick.
		{5, 3, least, false}, {5, 3, most, false}, {last, 3, most, false}, {0, wide, least, false},
		// There is no such window.
		{-1, 3, -1, false}, {-1, 3, 0, false}, {-1, 1, -1, false}, {least, 3, least, false}, {least, 1, 0, false}, {last + 1, 3, last + 1, false}, {last + 1, 3, last, false}, {last + 1, 1, last + 1, false}, {most, 1, most, false}, {most, wide, 0, false},
		{5, 0, 5, false}, {5, 0, -1, false}, {0, 0, 0, false}, {last, 0, last, false}, {5, -1, 5, false}, {5, -1, -1, false}, {5, least, 5, false}, {5, wide + 1, 5, false}, {5, wide + 1, 0, false}, {5, wide + 1, -1, false}, {5, most, 5, false}, {last, last, last, false},
	} {
		if got := Live(c.now, c.w, c.t); got != c.want {
			t.Errorf("Live(%d, %d, %d) = %t", c.now, c.w, c.t, got)
		}
	}
}

func TestSmallWindows(t *testing.T) {
	for now := range int64(12) {
		for w := int64(1); w <= 15; w++ {
			list := windowOf(now, w)
			if got, want := First(now, w), slices.Min(list); got != want {
				t.Errorf("First(%d, %d) = %d, not %d", now, w, got, want)
			}
			for n := int64(-5); n < 20; n++ {
				if got, want := Live(now, w, n), slices.Contains(list, n); got != want {
					t.Errorf("Live(%d, %d, %d) = %t", now, w, n, got)
				}
			}
		}
	}
}

func TestGreatWindows(t *testing.T) {
	for _, now := range []int64{0, 1, 5, wide - 2, wide - 1, wide, wide + 1, last - 1, last} {
		for _, w := range []int64{wide - 1, wide} {
			list := windowOf(now, w)
			first := list[len(list)-1]
			if got := First(now, w); got != first {
				t.Errorf("First(%d, %d) = %d, not %d", now, w, got, first)
			}
			for _, n := range list {
				if !Live(now, w, n) {
					t.Fatalf("Live(%d, %d, %d) = false", now, w, n)
				}
			}
			if Live(now, w, first-1) || Live(now, w, now+1) {
				t.Errorf("a tick beside the window of %d ticks at %d is live", w, now)
			}
		}
	}
}

// TestWindowsAroundTheLimits follows the definition of a window: now - w < t <= now, t at least 0.
func TestWindowsAroundTheLimits(t *testing.T) {
	seen := map[bool]int{}
	for _, now := range numbers() {
		for _, w := range numbers() {
			valid := tick(now) && window(w)
			if first := First(now, w); valid != (first >= 0) || !valid && first != -1 {
				t.Errorf("First(%d, %d) = %d", now, w, first)
			}
			for _, n := range numbers() {
				want := valid && tick(n) && now-w < n && n <= now
				seen[want]++
				if got := Live(now, w, n); got != want {
					t.Errorf("Live(%d, %d, %d) = %t", now, w, n, got)
				}
			}
		}
	}
	if seen[true] < 500 || seen[false] < 500 {
		t.Errorf("the results are too much alike: %v", seen)
	}
}

func TestExpired(t *testing.T) {
	for _, c := range []struct {
		ticks  []int64
		now, w int64
		want   int
	}{
		{[]int64{0, 2, 3, 3, 5}, 5, 3, 2}, {[]int64{0, 2, 3, 3, 5}, 5, 1, 4}, {[]int64{0, 2, 3, 3, 5}, 5, 2, 4}, {[]int64{0, 2, 3, 3, 5}, 5, 4, 1}, {[]int64{0, 2, 3, 3, 5}, 5, 5, 1}, {[]int64{0, 2, 3, 3, 5}, 5, 6, 0}, {[]int64{0, 2, 3, 3, 5}, 6, 3, 4}, {[]int64{0, 2, 3, 3, 5}, 7, 3, 4}, {[]int64{0, 2, 3, 3, 5}, 8, 3, 5},
		// An empty list.
		{nil, 5, 3, 0}, {[]int64{}, 5, 3, 0}, {nil, 0, 1, 0}, {nil, last, wide, 0}, {[]int64{9, 8}[:0], 5, 3, 0},
		// One tick: the last that is no longer live, the first that is.
		{[]int64{2}, 5, 3, 1}, {[]int64{3}, 5, 3, 0}, {[]int64{5}, 5, 3, 0}, {[]int64{2, 3}, 5, 3, 1}, {[]int64{0}, 0, 1, 0}, {[]int64{0}, 1, 1, 1}, {[]int64{last}, last, 1, 0}, {[]int64{last - 1}, last, 1, 1}, {[]int64{last - 1, last}, last, 1, 1}, {[]int64{last - wide, last - wide + 1}, last, wide, 1},
		// Equal ticks.
		{[]int64{5, 5}, 5, 1, 0}, {[]int64{4, 4}, 5, 1, 2}, {[]int64{2, 2, 2, 2, 2}, 5, 3, 5}, {[]int64{3, 3, 3, 3, 3}, 5, 3, 0}, {[]int64{0, 0, 0}, 0, 1, 0}, {[]int64{0, 0, 0}, last, wide, 3}, {[]int64{last, last, last}, last, 1, 0}, {[]int64{2, 2, 3, 3}, 5, 3, 2}, {[]int64{2, 2, 2, 3}, 5, 3, 3}, {[]int64{2, 3, 3, 3}, 5, 3, 1},
		// All ticks have left, or none has.
		{[]int64{0, 1}, 5, 3, 2}, {[]int64{0, 1, 2}, 5, 3, 3}, {[]int64{0, 1, last - wide}, last, wide, 3}, {[]int64{3, 4, 5}, 5, 3, 0}, {[]int64{last - wide + 1, last}, last, wide, 0}, {[]int64{4, 5}, 5, 3, 0},
		// The window reaches back before tick 0.
		{[]int64{0, 1}, 1, 3, 0}, {[]int64{0, 0, 5}, 5, wide, 0}, {[]int64{0, wide - 1}, wide - 1, wide, 0}, {[]int64{0, wide}, wide, wide, 1},
	} {
		if got := Expired(c.ticks, c.now, c.w); got != c.want {
			t.Errorf("Expired(%v, %d, %d) = %d, not %d", c.ticks, c.now, c.w, got, c.want)
		}
	}
}

func TestExpiredOfNoWindow(t *testing.T) {
	for _, list := range [][]int64{nil, {}, {0}, {5}, {0, 2, 3, 3, 5}, {-1}, {3, 2}, {most}} {
		for _, w := range []int64{0, -1, -2, -wide, least, wide + 1, last, most} {
			if got := Expired(list, 5, w); got != -1 {
				t.Errorf("Expired(%v, 5, %d) = %d", list, w, got)
			}
		}
		for _, now := range []int64{-1, -2, -last, least, last + 1, last + 2, 1 << 32, most} {
			for _, w := range []int64{1, 3, wide, 0, wide + 1, least, most} {
				if got := Expired(list, now, w); got != -1 {
					t.Errorf("Expired(%v, %d, %d) = %d", list, now, w, got)
				}
			}
		}
	}
}

func TestExpiredOfOtherLists(t *testing.T) {
	for _, c := range []struct {
		ticks []int64
		now   int64
	}{
		// The order is not ascending: at the front, in the middle, at the end; among the expired ticks, among the live ones, between them.
		{[]int64{3, 2}, 5}, {[]int64{1, 0}, 5}, {[]int64{5, 4}, 5}, {[]int64{1, 0, 2, 3, 4, 5}, 5}, {[]int64{0, 1, 3, 2, 4, 5}, 5}, {[]int64{0, 1, 2, 3, 5, 4}, 5}, {[]int64{0, 0, 0, 0, 5, 0}, 5}, {[]int64{5, 0, 0, 0, 0, 5}, 5}, {[]int64{last, 0}, last}, {[]int64{0, last, last - 1}, last},
		// An element is no tick.
		{[]int64{-1}, 5}, {[]int64{-1, 5}, 5}, {[]int64{-1, -1}, 5}, {[]int64{least}, 5}, {[]int64{least, 0, 5}, 5}, {[]int64{-1}, 0}, {[]int64{-1, 0}, last}, {[]int64{0, -1}, 5}, {[]int64{0, -1, 5}, 5}, {[]int64{last + 1}, last}, {[]int64{0, last + 1}, last}, {[]int64{most}, last}, {[]int64{0, most}, 5}, {[]int64{least, most}, 5}, {[]int64{0, most, 5}, 5},
		// An element is greater than now.
		{[]int64{6}, 5}, {[]int64{0, 6}, 5}, {[]int64{5, 6}, 5}, {[]int64{6, 6}, 5}, {[]int64{6, 5}, 5}, {[]int64{0, 6, 5}, 5}, {[]int64{1}, 0}, {[]int64{last}, 5}, {[]int64{last}, last - 1}, {[]int64{0, last}, last - 1},
	} {
		for _, w := range []int64{1, 2, 3, 6, 7, wide} {
			if got := Expired(c.ticks, c.now, w); got != -1 {
				t.Errorf("Expired(%v, %d, %d) = %d", c.ticks, c.now, w, got)
			}
		}
	}
}

// leftOf returns what Expired returns, by a walk over the elements with the definition of a window.
func leftOf(list []int64, now, w int64) int {
	if !tick(now) || !window(w) {
		return -1
	}
	left := 0
	for i, n := range list {
		if !tick(n) || n > now || i > 0 && list[i-1] > n {
			return -1
		}
		if n <= now-w {
			left++
		}
	}
	return left
}

// TestExpiredOfAllSmallLists tries all lists of up to 5 elements from -1 to 5 with all small windows.
func TestExpiredOfAllSmallLists(t *testing.T) {
	seen := map[int]int{}
	var try func(list []int64)
	try = func(list []int64) {
		for now := int64(-1); now <= 5; now++ {
			for w := range int64(8) {
				want := leftOf(list, now, w)
				seen[want]++
				if got := Expired(list, now, w); got != want {
					t.Errorf("Expired(%v, %d, %d) = %d, not %d", list, now, w, got, want)
				}
			}
		}
		if len(list) == 5 {
			return
		}
		for n := int64(-1); n <= 5; n++ {
			try(append(slices.Clone(list), n))
		}
	}
	try(nil)
	for n := -1; n <= 5; n++ {
		if seen[n] < 50 {
			t.Errorf("the result %d is expected only %d times", n, seen[n])
		}
	}
}

// pastList returns n random ticks from low to now in ascending order.
func pastList(source *rand.Rand, n int, low, now int64) []int64 {
	list := make([]int64, n)
	for i := range list {
		list[i] = low + source.Int63n(now-low+1)
	}
	slices.Sort(list)
	return list
}

func TestExpiredOfRandomLists(t *testing.T) {
	source := rand.New(rand.NewSource(6))
	for range 3000 {
		now := source.Int63n(last + 1)
		w := 1 + source.Int63n(wide)
		if source.Intn(2) == 0 {
			w = 1 + source.Int63n(50)
		}
		// Half of the lists lie around the first tick of the window.
		low := int64(0)
		if source.Intn(2) == 0 {
			low = max(0, now-2*w)
		}
		list := pastList(source, source.Intn(200), low, now)
		if got, want := Expired(list, now, w), leftOf(list, now, w); got != want {
			t.Fatalf("Expired(%v, %d, %d) = %d, not %d", list, now, w, got, want)
		}
		if len(list) == 0 {
			continue
		}
		// One element that is changed anywhere spoils the list, unless it still fits there.
		spoilt := slices.Clone(list)
		spoilt[source.Intn(len(list))] = []int64{-1, 0, now, now + 1, source.Int63n(last + 1), least, most}[source.Intn(7)]
		if got, want := Expired(spoilt, now, w), leftOf(spoilt, now, w); got != want {
			t.Fatalf("Expired(%v, %d, %d) = %d, not %d", spoilt, now, w, got, want)
		}
	}
}

func TestExpiredOfLongLists(t *testing.T) {
	const size = 1 << 18
	list := make([]int64, size)
	for i := range list {
		list[i] = int64(i / 2)
	}
	now := list[size-1]
	for _, w := range []int64{1, 2, 1000, now - 1, now, now + 1, now + 2, wide} {
		if got, want := Expired(list, now, w), leftOf(list, now, w); got != want {
			t.Errorf("Expired(_, %d, %d) = %d, not %d", now, w, got, want)
		}
	}
	if got := Expired(list, last, wide); got != size {
		t.Errorf("%d of %d ticks have left", got, size)
	}
	for _, i := range []int{0, 1, 2, size / 2, size - 2, size - 1} {
		spoilt := slices.Clone(list)
		spoilt[i] = -1
		if got := Expired(spoilt, now, 1000); got != -1 {
			t.Errorf("Expired of a list whose element %d is no tick = %d", i, got)
		}
	}
}

// TestExpiredCountsWhatIsNotLive compares the functions with each other.
func TestExpiredCountsWhatIsNotLive(t *testing.T) {
	source := rand.New(rand.NewSource(66))
	for range 500 {
		now, w := source.Int63n(60), 1+source.Int63n(70)
		list := pastList(source, source.Intn(40), 0, now)
		n := Expired(list, now, w)
		for i, x := range list {
			if Live(now, w, x) != (i >= n) {
				t.Fatalf("Expired(%v, %d, %d) = %d, but element %d says otherwise", list, now, w, n, i)
			}
		}
	}
}

// TestArguments checks that the elements of a list, and the memory before and behind it, stay as they are.
func TestArguments(t *testing.T) {
	for _, c := range []struct {
		ticks  []int64
		now, w int64
	}{
		{[]int64{0, 2, 3, 3, 5}, 5, 3}, {[]int64{0, 1, 2}, 5, 3}, {[]int64{3, 4, 5}, 5, 3}, {[]int64{5, 5}, 5, 1}, {nil, 5, 3}, {[]int64{0, 2, 3}, 5, 0}, {[]int64{0, 2, 3}, -1, 3},
		{[]int64{3, 2, 1}, 5, 3}, {[]int64{5, 3, 2, 2, 0}, 5, 3}, {[]int64{-1, 4}, 5, 3}, {[]int64{4, 6}, 5, 3}, {[]int64{6, 4, -1}, 5, 3},
	} {
		memory := slices.Concat([]int64{9, 1}, c.ticks, []int64{4, 2, 7})
		before := slices.Clone(memory)
		n := Expired(memory[2:2+len(c.ticks)], c.now, c.w)
		if !slices.Equal(memory, before) {
			t.Errorf("Expired(%v, %d, %d) changed its argument, or what lies beside it: %v", c.ticks, c.now, c.w, memory)
		}
		// What lies beside the list does not matter, and a second call returns the same.
		if alone := Expired(slices.Clone(c.ticks), c.now, c.w); alone != n {
			t.Errorf("Expired(%v, %d, %d) = %d and %d", c.ticks, c.now, c.w, n, alone)
		}
	}
}
