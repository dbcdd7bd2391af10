package spread

import (
	"math/big"
	"math/rand"
	"testing"

	"windowpane/api"
)

// sums returns the mark of n items with these sums.
func sums(n, s, q int64) api.Mark { return api.Mark{N: n, S: s, Q: q} }

// checkOf compares Of with what the chapter says, whatever the mark's other numbers are.
func checkOf(t *testing.T, m api.Mark) bool {
	t.Helper()
	want := api.Ratio{}
	v, fits := deviation(m)
	if fits {
		want = ratioOf(v)
	}
	for _, other := range []api.Mark{{}, {Seq: least, T: most, Min: most, Max: least}, {Seq: most, T: least, Min: least, Max: most}} {
		other.N, other.S, other.Q = m.N, m.S, m.Q
		if got, ok := Of(other); got != want || ok != fits {
			t.Fatalf("Of(%v) = %v, %t, not %v, %t", other, got, ok, want, fits)
		}
	}
	return fits
}

func TestOf(t *testing.T) {
	for _, c := range []struct {
		m        api.Mark
		num, den int64
	}{
		{mark(7, its(1, 1, 2, 2, 3, 6)), 14, 1}, {mark(7, its(1, 5, 2, 5, 3, 5)), 0, 1}, {mark(7, its(1, 0, 2, 1)), 1, 2}, {mark(7, its(1, -1, 2, 1)), 2, 1}, {mark(7, its(1, 0, 2, 0, 3, 1)), 2, 3}, {mark(7, its(1, 0, 2, 1, 3, 1, 4, 0)), 1, 1}, {mark(7, its(1, highest, 2, -highest)), 33554432, 1}, {mark(7, its(1, highest, 2, -highest, 3, -highest)), 134217728, 3},
		// N is 1.
		{sums(1, 0, 0), 0, 1}, {sums(1, highest, 16777216), 0, 1}, {sums(1, -highest, 16777216), 0, 1}, {sums(1, 0, 16777216), 16777216, 1}, {sums(1, 4095, 16777216), 8191, 1}, {sums(1, -3, 10), 1, 1},
		// N is MaxCap, and next to it.
		{sums(65536, 0, 0), 0, 1}, {sums(65536, 268435456, 1099511627776), 0, 1}, {sums(65536, -268435456, 1099511627776), 0, 1}, {sums(65536, 0, 1099511627776), 1099511627776, 1}, {sums(65536, 268435455, 1099511627776), 536870911, 65536}, {sums(65536, -268435455, 1099511627776), 536870911, 65536}, {sums(65536, 1, 1099511627776), 72057594037927935, 65536}, {sums(65536, 65536, 65536), 0, 1}, {sums(65536, 1, 1), 65535, 65536}, {sums(65535, 268431360, 1099494850560), 0, 1}, {sums(65535, 1, 1099494850560), 72055395031449599, 65535},
		// S S is equal to N Q, and just less.
		{sums(3, 3, 3), 0, 1}, {sums(3, 3, 4), 1, 1}, {sums(2, 3, 5), 1, 2}, {sums(2, -3, 5), 1, 2}, {sums(65536, 256, 1), 0, 1}, {sums(65536, -256, 1), 0, 1}, {sums(65536, 255, 1), 511, 65536},
	} {
		if got, ok := Of(c.m); got != (api.Ratio{Num: c.num, Den: c.den}) || !ok {
			t.Errorf("Of(%v) = %v, %t", c.m, got, ok)
		}
		checkOf(t, c.m)
	}
}

// wrongMarks returns marks without a spread.
func wrongMarks() []api.Mark {
	return []api.Mark{
		// S S is just greater than N Q.
		sums(3, 3, 2), sums(2, 3, 4), sums(2, -3, 4), sums(1, 1, 0), sums(1, 4096, 16777215), sums(1, -4096, 16777215), sums(65536, 268435456, 1099511627775), sums(65536, 1, 0), sums(65536, 257, 1), sums(65536, -257, 1),
		// N, S and Q are just out of range.
		sums(0, 0, 0), sums(0, 0, 5), sums(-1, 0, 0), sums(-1, 0, -5), sums(65537, 0, 0), sums(65537, 5, 99), sums(1, 4097, 16777216), sums(1, -4097, 16777216), sums(65536, 268435457, 1099511627776), sums(65536, -268435457, 1099511627776), sums(1, 0, -1), sums(1, 0, 16777217), sums(1, 4096, 16777217), sums(65536, 0, -1), sums(65536, 0, 1099511627777), sums(2, 0, 33554433),
		// Products of these wrap around.
		sums(1, 1<<32, 0), sums(1, -1<<32, 0), sums(4, 1<<62, 1<<62), sums(1, least, 0), sums(1, least, 16777216), sums(1<<52, 0, 0), sums(1<<40, 0, 0), sums(1<<32+1, 0, 0), sums(least, 0, 0), sums(most, 0, 0), sums(least, least, least), sums(most, most, most), sums(least+1, 0, 5), sums(1, 0, most), sums(1, 0, least), sums(2, 0, 1<<32), sums(65536, 0, 1<<48), sums(65536, 1<<32, 1<<40), sums(1<<51+1, 0, 0), sums(1<<40+1, 0, 0), sums(1<<40+9, 9, 9),
	}
}

func TestOfWrongMarks(t *testing.T) {
	for _, m := range wrongMarks() {
		if got, ok := Of(m); got != (api.Ratio{}) || ok {
			t.Errorf("Of(%v) = %v, %t", m, got, ok)
		}
		checkOf(t, m)
	}
}

// TestOfAtTheEnds takes the numbers around all ends of the ranges together.
func TestOfAtTheEnds(t *testing.T) {
	seen := map[bool]int{}
	for _, n := range []int64{-1, 0, 1, 2, 3, 7, 100, 65535, 65536, 65537, 1 << 40, least, most} {
		for _, s := range []int64{0, 1, 2, n / 3, n - 1, n, 3*n + 1, 4095 * n, 4096*n - 1, 4096 * n, 4096*n + 1, 1 << 32, most} {
			for _, q := range []int64{-1, 0, 1, s*s/max(1, n) - 1, s * s / max(1, n), s*s/max(1, n) + 1, 77 * n, 16777216*n - 1, 16777216 * n, 16777216*n + 1, least, most} {
				seen[checkOf(t, sums(n, s, q))]++
				seen[checkOf(t, sums(n, -s, q))]++
			}
		}
	}
	if seen[true] < 500 || seen[false] < 1000 {
		t.Errorf("the results are too much alike: %v", seen)
	}
}

// checkClose compares Close with what the chapter says.
func checkClose(t *testing.T, a, b api.Mark, k int) bool {
	t.Helper()
	want := near(a, b, k)
	if got := Close(a, b, k); got != want {
		t.Fatalf("Close(%v, %v, %d) = %t", a, b, k, got)
	}
	return want
}

func TestClose(t *testing.T) {
	const u, m = 2863311530, 183251937962 // 384 u and 6 m are just less than 65536 squares of MaxValue
	for _, c := range []struct {
		a, b api.Mark
		k    int
		want bool
	}{
		// The numbers decide alone: the spreads are 0.
		{sums(6, 0, 0), sums(5, 0, 0), 1, true}, {sums(6, 0, 0), sums(4, 0, 0), 1, false}, {sums(5, 0, 0), sums(4, 0, 0), 1, false}, {sums(7, 0, 0), sums(6, 0, 0), 1, true}, {sums(12, 60, 300), sums(10, 50, 250), 1, true}, {sums(11, 55, 275), sums(9, 45, 225), 1, false}, {sums(1, 9, 81), sums(1, -9, 81), 1, true}, {sums(1, 9, 81), sums(1, 5, 25), finest, true}, {sums(2, 0, 0), sums(1, 0, 0), 1, false}, {sums(12, 0, 0), sums(11, 0, 0), 2, true}, {sums(11, 0, 0), sums(10, 0, 0), 2, false}, {sums(fullest, 0, 0), sums(54614, 0, 0), 1, true}, {sums(fullest, 0, 0), sums(54613, 0, 0), 1, false}, {sums(384, 0, 0), sums(383, 0, 0), finest, true}, {sums(383, 0, 0), sums(382, 0, 0), finest, false}, {sums(768, 0, 0), sums(766, 0, 0), finest, true}, {sums(767, 0, 0), sums(765, 0, 0), finest, false}, {sums(fullest, 0, 0), sums(65366, 0, 0), finest, true}, {sums(fullest, 0, 0), sums(65365, 0, 0), finest, false},
		// The spreads decide alone: the numbers are equal.
		{sums(6, 0, 6), sums(6, 0, 5), 1, true}, {sums(6, 0, 6), sums(6, 0, 4), 1, false}, {sums(6, 0, 6), sums(6, 1, 5), 1, false}, {sums(6, 6, 12), sums(6, -6, 11), 1, true}, {sums(6, 6, 12), sums(6, -6, 10), 1, false}, {sums(2, 1, 5), sums(2, 1, 1), 1, false}, {sums(6, 0, 1), sums(6, 5, 5), 1, true}, {sums(6, 0, 1), sums(6, 1, 1), 1, true}, {sums(5, 0, 1), sums(5, 1, 1), 1, false}, {sums(9, 0, 1), sums(9, 0, 0), 1, false}, {sums(100, 0, 384), sums(100, 0, 383), finest, true}, {sums(100, 0, 384), sums(100, 0, 382), finest, false}, {sums(100, 0, 385), sums(100, 0, 384), finest, true}, {sums(100, 0, 383), sums(100, 0, 382), finest, false},
		// Their products do not fit into 64 bits.
		{sums(fullest, 0, 384*u), sums(fullest, 0, 383*u), finest, true}, {sums(fullest, 0, 384*u), sums(fullest, 0, 383*u-1), finest, false}, {sums(fullest, 0, 384*u+1), sums(fullest, 0, 383*u), finest, false}, {sums(fullest, 0, 6<<37), sums(fullest, 0, 5<<37), 1, true}, {sums(fullest, 0, 6<<37), sums(fullest, 0, 5<<37-1), 1, false}, {sums(fullest, 1<<28, 1<<40), sums(fullest, 1, 1<<40), finest, true}, {sums(fullest, 1, 1<<40), sums(fullest, 1<<28, 1<<40), finest, false}, {sums(65280, 0, 65280<<24), sums(65110, 0, 65110<<24), finest, true}, {sums(65280, 0, 65280<<24), sums(65110, 0, 65110<<24-1), finest, false},
		// Their products differ only in digits that no float has.
		{sums(fullest, 0, 6*m), sums(fullest, 0, 5*m), 1, true}, {sums(fullest, 1, 6*m), sums(fullest, -1, 5*m), 1, false}, {sums(fullest, 2, 6*m), sums(fullest, 1, 5*m), 1, true}, {sums(fullest, 1, 384*u), sums(fullest, 0, 383*u), finest, true}, {sums(fullest, 0, 384*u), sums(fullest, 1, 383*u), finest, false}, {sums(fullest, -1, 384*u), sums(fullest, 1, 383*u), finest, false},
		// Both are just close, one is not.
		{sums(6, 6, 12), sums(5, 5, 10), 1, true}, {sums(6, 6, 12), sums(5, 5, 9), 1, false}, {sums(6, 6, 12), sums(4, 4, 12), 1, false}, {sums(6, 6, 12), sums(5, 5, 10), 2, false}, {sums(6, 6, 12), sums(6, 6, 12), finest, true}, {sums(384, 0, 384), sums(383, 0, 383), finest, true}, {sums(384, 0, 384), sums(383, 1, 383), finest, false}, {sums(384, 0, 384), sums(382, 0, 384), finest, false},
		// The second mark has more.
		{sums(5, 5, 10), sums(6, 6, 12), 1, true}, {sums(1, 0, 0), sums(fullest, 0, 1<<40), finest, true}, {sums(fullest, 0, 1<<40), sums(1, 0, 0), 1, false}, {sums(3, 0, 0), sums(9, 0, 5), 1, true}, {sums(3, 0, 5), sums(9, 0, 0), 1, false}, {sums(9, 0, 0), sums(3, 0, 5), 1, false},
	} {
		if got := Close(c.a, c.b, c.k); got != c.want {
			t.Errorf("Close(%v, %v, %d) = %t", c.a, c.b, c.k, got)
		}
		checkClose(t, c.a, c.b, c.k)
	}
}

func TestCloseOfWrongArguments(t *testing.T) {
	good := []api.Mark{sums(1, 0, 0), sums(6, 6, 12), sums(fullest, 0, 1<<40), sums(fullest, 0, 0)}
	for _, m := range good {
		for _, k := range []int{0, -1, -finest, finest + 1, finest + 2, 1 << 32, 1<<32 + 1, 1 << 61, 1<<61 + 1, 1 << 62, 1<<62 + 1, least, least + 1, most} {
			if Close(m, m, k) {
				t.Errorf("Close(%v, %v, %d)", m, m, k)
			}
		}
		for _, wrong := range wrongMarks() {
			for _, k := range []int{1, finest, 0, finest + 1, least, most} {
				if Close(m, wrong, k) || Close(wrong, m, k) || Close(wrong, wrong, k) {
					t.Errorf("Close of %v, %v and %d", m, wrong, k)
				}
			}
		}
	}
}

// drawnMark returns a mark that has a spread.
func drawnMark(source *rand.Rand, n int64) api.Mark {
	s := source.Int63n(2*n*highest+1) - n*highest
	s >>= source.Intn(30)
	low := (s*s + n - 1) / n
	return sums(n, s, low+source.Int63n(n*highest*highest-low+1)>>source.Intn(40))
}

// TestCloseAroundTheBorder takes marks that are just close and just not.
func TestCloseAroundTheBorder(t *testing.T) {
	source := rand.New(rand.NewSource(21))
	seen := map[[3]bool]int{}
	for range 100000 {
		k := []int{1, 2, 3, 10, finest - 1, finest}[source.Intn(6)]
		all := 6 * int64(k)
		a := drawnMark(source, 1+source.Int63n(fullest)>>source.Intn(16))
		n := max(1, ((all-1)*a.N+all-1)/all+source.Int63n(3)-1)
		b := drawnMark(source, n)
		// The least Q for which the spread suffices, or a number next to it.
		v, ok := deviation(a)
		if !ok {
			continue
		}
		v.Mul(v, big.NewRat(all-1, all)).Add(v, new(big.Rat).SetFrac64(b.S*b.S, n))
		b.Q = new(big.Int).Div(v.Num(), v.Denom()).Int64() + source.Int63n(4) - 1
		_, fits := deviation(b)
		seen[[3]bool{fits, all*n >= (all-1)*a.N, checkClose(t, a, b, k)}]++
		checkClose(t, b, a, k)
	}
	for _, kind := range [][3]bool{{true, true, true}, {true, true, false}, {true, false, false}, {false, true, false}} {
		if seen[kind] < 3000 {
			t.Errorf("too few of %v: %v", kind, seen)
		}
	}
}

func TestMost(t *testing.T) {
	for _, c := range []struct{ k, size, want int }{
		{1, 1, 12*27 + 4}, {1, 2, 12*30 + 4}, {1, 3, 12*30 + 4}, {1, 4, 12*33 + 4}, {1, 100, 12*45 + 4}, {2, 100, 24*45 + 4}, {3, 1000, 36*54 + 4}, {finest, 1, 768*27 + 4}, {1, fullest - 1, 12*72 + 4}, {1, fullest, 12*75 + 4}, {finest, fullest - 1, 768*72 + 4}, {finest, fullest, 768*75 + 4},
		{0, 1, 0}, {-1, 1, 0}, {finest + 1, 1, 0}, {least, 1, 0}, {most, 1, 0}, {1<<32 + 1, 1, 0}, {1, 0, 0}, {1, -1, 0}, {1, fullest + 1, 0}, {1, least, 0}, {1, most, 0}, {1, 1<<32 + 1, 0}, {0, 0, 0},
	} {
		if got := Most(c.k, c.size); got != c.want {
			t.Errorf("Most(%d, %d) = %d, not %d", c.k, c.size, got, c.want)
		}
	}
	for _, n := range edges() {
		for _, c := range [][2]int{{int(n), 9}, {3, int(n)}, {int(n), 0}, {0, int(n)}, {finest, int(n)}, {int(n), fullest}} {
			if got, want := Most(c[0], c[1]), limit(c[0], c[1]); got != want {
				t.Errorf("Most(%d, %d) = %d, not %d", c[0], c[1], got, want)
			}
		}
	}
}
