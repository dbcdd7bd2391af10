package chain

import (
	"fmt"
	"math/big"
	"slices"
	"testing"

	"windowpane/api"
)

// This file checks P18.4: by all draws, so that nothing is left to chance.

// valueOf is the value of an item in the streams of this file; no two have the same.
func valueOf(i int64) int64 { return 100 - 3*i }

// continued calls try with every sample that the next item can make, and with the ranges of the draws that it takes.
func continued(t *testing.T, x api.Chain, draws, ranges []int64, try func(y api.Chain, ranges []int64)) {
	t.Helper()
	m, ok := Needs(x, valueOf(x.I+1), draws, 0)
	if !ok {
		y, at, err := Add(x, valueOf(x.I+1), draws, 0)
		if err != api.OK || at != len(draws) {
			t.Fatalf("Add(%v, %v) = %d, %d", x, draws, at, err)
		}
		try(y, ranges)
		return
	}
	for d := range m {
		continued(t, x, append(slices.Clone(draws), d), append(slices.Clone(ranges), m), try)
	}
}

// weights returns the number of sequences of draws for which each item is the sample, where each item takes 2 draws: of min(i, w) and of w.
func weights(w, n int64) int64 {
	all := int64(1)
	for i := int64(1); i <= n; i++ {
		all *= min(i, w) * w
	}
	return all
}

// TestUniform goes through the whole tree of draws of a few items, and counts which of them is the sample.
func TestUniform(t *testing.T) {
	for w, n := range []int64{1: 20, 2: 10, 3: 7, 4: 6, 5: 5, 6: 4} {
		if w == 0 {
			continue
		}
		checkTree(t, int64(w), n)
	}
}

func checkTree(t *testing.T, w, n int64) {
	t.Helper()
	counts := make([]map[int64]int64, n+1)
	for i := range counts {
		counts[i] = map[int64]int64{}
	}
	var walk func(x api.Chain, weight int64)
	walk = func(x api.Chain, weight int64) {
		if x.I > 0 {
			v, err := Ask(x)
			if err != api.OK {
				t.Fatalf("Ask(%v) = %d", x, err)
			}
			counts[x.I][v] += weight
		}
		if x.I == n {
			return
		}
		continued(t, x, nil, nil, func(y api.Chain, ranges []int64) {
			part := weight
			for _, m := range ranges {
				if part%m != 0 {
					t.Fatalf("%d has no part of 1 / %d", part, m)
				}
				part /= m
			}
			walk(y, part)
		})
	}
	// A window of w items never has more than w links.
	x, err := New(w, int(w))
	if err != api.OK {
		t.Fatal(err)
	}
	all := weights(w, n)
	walk(x, all)
	for i := int64(1); i <= n; i++ {
		items := min(i, w)
		if len(counts[i]) != int(items) {
			t.Errorf("w %d: the sample of %d items is one of %v", w, i, counts[i])
		}
		for j := i - items + 1; j <= i; j++ {
			if got := counts[i][valueOf(j)]; got*items != all {
				t.Errorf("w %d: of %d items, %d is the sample in %d of %d cases", w, i, j, got, all)
			}
		}
	}
}

// TestUniformLater follows all samples with their probabilities over longer streams.
func TestUniformLater(t *testing.T) {
	for w, n := range []int64{1: 50, 2: 50, 3: 40, 4: 30, 5: 20, 6: 14} {
		if w == 0 {
			continue
		}
		x, _ := New(int64(w), int(w))
		states, parts := []api.Chain{x}, []*big.Rat{big.NewRat(1, 1)}
		for range n {
			states, parts = allNext(t, states, parts)
			checkParts(t, states, parts)
		}
	}
}

// allNext returns the samples after one more item, each with its probability.
func allNext(t *testing.T, states []api.Chain, parts []*big.Rat) ([]api.Chain, []*big.Rat) {
	t.Helper()
	var next []api.Chain
	var sums []*big.Rat
	place := map[string]int{}
	for i, x := range states {
		continued(t, x, nil, nil, func(y api.Chain, ranges []int64) {
			part := new(big.Rat).Set(parts[i])
			for _, m := range ranges {
				part.Mul(part, big.NewRat(1, m))
			}
			key := fmt.Sprint(y)
			at, ok := place[key]
			if !ok {
				at = len(next)
				place[key] = at
				next, sums = append(next, y), append(sums, new(big.Rat))
			}
			sums[at].Add(sums[at], part)
		})
	}
	return next, sums
}

// checkParts checks that each item of the window is the sample with the same probability.
func checkParts(t *testing.T, states []api.Chain, parts []*big.Rat) {
	t.Helper()
	sums := map[int64]*big.Rat{}
	for i, x := range states {
		v, err := Ask(x)
		if err != api.OK {
			t.Fatalf("Ask(%v) = %d", x, err)
		}
		if sums[v] == nil {
			sums[v] = new(big.Rat)
		}
		sums[v].Add(sums[v], parts[i])
	}
	i, w := states[0].I, states[0].W
	items := min(i, w)
	if len(sums) != int(items) {
		t.Errorf("w %d: the sample of %d items is one of %v", w, i, sums)
	}
	for j := i - items + 1; j <= i; j++ {
		if got := sums[valueOf(j)]; got == nil || got.Cmp(big.NewRat(1, items)) != 0 {
			t.Errorf("w %d: of %d items, %d is the sample with the probability %v", w, i, j, got)
		}
	}
}
