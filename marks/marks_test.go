package marks

import (
	"slices"
	"testing"

	"windowpane/api"
)

// never and always are the least and the most eager rule.
func never(a, b api.Mark) bool  { return false }
func always(a, b api.Mark) bool { return true }

// half is the rule of counts for K = 1.
func half(a, b api.Mark) bool { return 2*b.N >= a.N }

// fed returns a histogram of the last 3 ticks after one value at each tick from 0 on.
func fed(t *testing.T, near Rule, values ...int64) api.Smooth {
	t.Helper()
	x, err := New(api.AggRange, 3, 1, 100, 0)
	if err != api.OK {
		t.Fatal(err)
	}
	for i, v := range values {
		x, err = Advance(x, int64(i))
		if err != api.OK {
			t.Fatal(i, err)
		}
		x, err = Add(x, v, near)
		if err != api.OK {
			t.Fatal(v, err)
		}
	}
	return x
}

// seqs returns the numbers of the items at which the marks begin.
func seqs(x api.Smooth) []int64 {
	var list []int64
	for _, m := range x.Marks {
		list = append(list, m.Seq)
	}
	return list
}

// TestRules adds items under several rules.
func TestRules(t *testing.T) {
	for i, c := range []struct {
		near   Rule
		values []int64
		want   []int64
	}{
		{never, nil, nil}, {always, nil, nil}, {never, []int64{5}, []int64{1}}, {always, []int64{5}, []int64{1}}, {never, []int64{5, 6}, []int64{1, 2}}, {always, []int64{5, 6}, []int64{1, 2}},
		{never, []int64{5, 6, 7}, []int64{1, 2, 3}}, {always, []int64{5, 6, 7}, []int64{1, 3}}, {half, []int64{5, 6, 7}, []int64{1, 2, 3}},
		// The first mark stays until the second one leaves.
		{never, []int64{5, 6, 7, 8, 9}, []int64{2, 3, 4, 5}}, {always, []int64{5, 6, 7, 8, 9}, []int64{1, 5}}, {half, []int64{5, 6, 7, 8}, []int64{1, 3, 4}}, {half, []int64{5, 6, 7, 8, 9}, []int64{1, 3, 4, 5}},
	} {
		x := fed(t, c.near, c.values...)
		if got := seqs(x); !slices.Equal(got, c.want) {
			t.Errorf("case %d: the marks begin at %v, not at %v", i, got, c.want)
		}
		if !Valid(x, c.near) {
			t.Errorf("case %d: %v is not valid", i, x)
		}
	}
}

// TestValid holds the same marks against several rules.
func TestValid(t *testing.T) {
	x := fed(t, never, 5, 6, 7)
	if !Valid(x, never) || Valid(x, always) || !Valid(x, half) {
		t.Error("only the eager rule forbids these marks")
	}
	x.Marks = slices.Clone(x.Marks)
	x.Marks[1].Q--
	if Valid(x, never) {
		t.Error("the marks have squares that do not fit")
	}
}

func TestEnds(t *testing.T) {
	gap, steps := fed(t, always, 5, 6, 7), fed(t, never, 5, 6, 7)
	for i, c := range []struct {
		x            api.Smooth
		now          int64
		inner, outer int64 // the items at which they begin
	}{
		{fed(t, never), 0, 0, 0}, {gap, 2, 1, 1}, {gap, 3, 3, 1}, {gap, 4, 3, 1}, {gap, 5, 0, 0}, {steps, 2, 1, 1}, {steps, 3, 2, 2}, {steps, 4, 3, 3}, {steps, 5, 0, 0},
	} {
		x, err := Advance(c.x, c.now)
		inner, outer := Ends(x)
		if err != api.OK || inner.Seq != c.inner || outer.Seq != c.outer {
			t.Errorf("case %d: %d, the ends of %v are %v and %v", i, err, x, inner, outer)
		}
		if c.inner == 0 && (inner != api.Mark{} || outer != api.Mark{}) {
			t.Errorf("case %d: %v and %v have items", i, inner, outer)
		}
	}
}

func TestErrors(t *testing.T) {
	x := fed(t, never, 5, 6)
	x.Cap = 2
	if y, err := Add(x, 7, never); err != api.ErrFull || y.Marks != nil || y.Cap != 0 {
		t.Errorf("Add to a full histogram = %v, %d", y, err)
	}
	if y, err := Add(x, api.MaxValue+1, never); err != api.ErrRange || y.Marks != nil || y.Cap != 0 {
		t.Errorf("Add of a wrong value = %v, %d", y, err)
	}
	if y, err := Advance(x, 0); err != api.ErrTime || y.Marks != nil || y.Cap != 0 {
		t.Errorf("Advance to an earlier tick = %v, %d", y, err)
	}
	for agg := 0; agg <= 5; agg++ {
		want := agg >= api.AggCount && agg <= api.AggRange
		if _, err := New(agg, 3, 1, 100, 0); (err == api.OK) != want || ValidSizes(agg, 1, 100) != want {
			t.Errorf("New with the aggregate %d = %d", agg, err)
		}
	}
}
