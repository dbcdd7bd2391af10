package chain

import (
	"math"
	"math/big"
	"slices"

	"windowpane/api"
)

// This file says what chapter 18 requires: word by word, with comparisons in big numbers where 64 bits may not suffice.

const (
	least   = math.MinInt64
	most    = math.MaxInt64
	longest = 1 << 20 // the longest window
	fullest = 64      // the most links
	total   = 1 << 40 // the most items
	highest = 4096    // the greatest value
)

// window, size, number and value say which numbers are valid.
func window(w int64) bool { return w > 0 && w < 1048577 }
func size(n int) bool     { return n > 0 && n < 65 }
func number(n int64) bool { return n > -1 && n < 1099511627777 }
func value(v int64) bool  { return v > -4097 && v < 4097 }

// within reports whether a <= b + w.
func within(a, b, w int64) bool {
	if max(a, b, w) < 1<<60 && min(a, b, w) > -1<<60 {
		return a-b <= w
	}
	return new(big.Int).Sub(big.NewInt(a), big.NewInt(b)).Cmp(big.NewInt(w)) <= 0
}

// holds returns which conditions a state fulfils, in their order in the chapter.
func holds(x api.Chain) []bool {
	values := true
	for _, link := range x.Links {
		values = values && value(link.V)
	}
	list := []bool{window(x.W), size(x.Cap), number(x.I), len(x.Links) <= x.Cap, values}
	n := len(x.Links)
	if x.I == 0 {
		return append(list, n == 0, x.Next == 0)
	}
	list = append(list, true, true, n > 0)
	if n == 0 {
		return append(list, true, true, true, true, true, x.Next > x.I)
	}
	ascend, near := true, true
	for i := 1; i < n; i++ {
		ascend = ascend && x.Links[i].I > x.Links[i-1].I
		near = near && within(x.Links[i].I, x.Links[i-1].I, x.W)
	}
	first, last := x.Links[0].I, x.Links[n-1].I
	return append(list, ascend, near, !within(x.W, x.I, -first), first > 0, last <= x.I, x.Next > x.I, within(x.Next, last, x.W))
}

// broken returns the conditions that a state breaks, by their order in the chapter.
func broken(x api.Chain) []int {
	var wrong []int
	for i, fine := range holds(x) {
		if !fine {
			wrong = append(wrong, i+1)
		}
	}
	return wrong
}

func valid(x api.Chain) bool { return len(broken(x)) == 0 }

// code returns the error that stands for an invalid state, if it is one.
func code(ok bool) api.Errno {
	if ok {
		return api.OK
	}
	return api.ErrState
}

// reader takes draws from a list, and notes their ranges. Beyond is the range of the draw that the list was too short for.
type reader struct {
	draws  []int64
	at     int
	ranges []int64
	beyond int64
}

func (r *reader) read(m int64) (int64, bool) {
	r.ranges = append(r.ranges, m)
	if r.at >= len(r.draws) {
		r.beyond = m
		return 0, false
	}
	d := r.draws[r.at]
	r.at++
	return d, d >= 0 && d < m
}

// added is what Add returns, with the reader of the draws instead of the index.
func added(x api.Chain, v int64, draws []int64, at int) (api.Chain, reader, api.Errno) {
	r := reader{draws: draws, at: at}
	switch {
	case !valid(x):
		return api.Chain{}, r, api.ErrState
	case !value(v):
		return api.Chain{}, r, api.ErrRange
	case at < 0:
		return api.Chain{}, r, api.ErrArg
	case x.I == total:
		return api.Chain{}, r, api.ErrFull
	}
	i := x.I + 1
	old, isLink := slices.Clone(x.Links), x.Next == i
	if len(old) > 0 && old[0].I == i-x.W {
		old = old[1:]
	} else {
		m := x.W
		if i < m {
			m = i
		}
		d, ok := r.read(m)
		if !ok {
			return api.Chain{}, r, api.ErrDraw
		}
		if d == 0 {
			old, isLink = nil, true
		}
	}
	if !isLink {
		return api.Chain{W: x.W, Cap: x.Cap, I: i, Next: x.Next, Links: old}, r, api.OK
	}
	if len(old) == x.Cap {
		return api.Chain{}, r, api.ErrChain
	}
	d, ok := r.read(x.W)
	if !ok {
		return api.Chain{}, r, api.ErrDraw
	}
	return api.Chain{W: x.W, Cap: x.Cap, I: i, Next: i + 1 + d, Links: append(old, api.Link{I: i, V: v})}, r, api.OK
}

// needed is what Needs returns.
func needed(x api.Chain, v int64, draws []int64, at int) (int64, bool) {
	_, r, _ := added(x, v, draws, at)
	return r.beyond, r.beyond > 0
}

// asked is what Ask returns.
func asked(x api.Chain) (int64, api.Errno) {
	if !valid(x) {
		return 0, api.ErrState
	}
	if x.I == 0 {
		return 0, api.ErrEmpty
	}
	return x.Links[0].V, api.OK
}
