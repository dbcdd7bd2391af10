package ring

import (
	"math"
	"math/rand"
	"slices"
	"testing"

	"windowpane/api"
)

const (
	least = math.MinInt
	most  = math.MaxInt
)

// same reports whether two buffers are equal; nil cells and no cells are equivalent.
func same(a, b api.Ring) bool {
	return a.Cap == b.Cap && a.Head == b.Head && a.Len == b.Len && slices.Equal(a.Cells, b.Cells)
}

// items returns n items of which no two are equal and none is zero.
func items(n int) []api.Item {
	list := make([]api.Item, n)
	for i := range list {
		list[i] = api.Item{T: int64(i) + 1, V: -10 * (int64(i) + 1)}
	}
	return list
}

// layout returns the buffer that has these elements from the cell head on. It counts the cells one by one, without a modulus.
func layout(size, head int, list []api.Item) api.Ring {
	r := api.Ring{Cap: size, Head: head, Len: len(list), Cells: make([]api.Item, size)}
	cell := head
	for _, x := range list {
		r.Cells[cell] = x
		cell = after(cell, size)
	}
	return r
}

// after returns the cell that follows a cell.
func after(cell, size int) int {
	if cell == size-1 {
		return 0
	}
	return cell + 1
}

// before returns the cell that precedes a cell.
func before(cell, size int) int {
	if cell == 0 {
		return size - 1
	}
	return cell - 1
}

// with returns a new list of one element and others.
func with(first api.Item, others []api.Item) []api.Item {
	return append([]api.Item{first}, others...)
}

// turned returns the list after n moves of its first element to its end.
func turned(list []api.Item, n int) []api.Item {
	list = slices.Clone(list)
	for range n {
		list = append(list[1:], list[0])
	}
	return list
}

// shape is a buffer with the data of which layout made it.
type shape struct {
	size, head int
	list       []api.Item
}

func (s shape) ring() api.Ring { return layout(s.size, s.head, s.list) }

// shapes returns all shapes with capacities from 1 to 6, and some with great ones.
func shapes() []shape {
	var all []shape
	for size := 1; size <= 6; size++ {
		for head := range size {
			for n := range size + 1 {
				all = append(all, shape{size, head, items(n)})
			}
		}
	}
	for _, size := range []int{api.MaxCap - 1, api.MaxCap} {
		for _, head := range []int{0, 1, size / 2, size - 1} {
			for _, n := range []int{0, 1, 2, size / 2, size - 1, size} {
				all = append(all, shape{size, head, items(n)})
			}
		}
	}
	return all
}

func (s shape) small() bool { return s.size <= 6 }

// check reports a result of a call that returns a buffer and an error.
func check(t *testing.T, name string, s shape, got api.Ring, err api.Errno, want api.Ring, wantErr api.Errno) {
	t.Helper()
	if err == wantErr && same(got, want) {
		return
	}
	if s.small() {
		t.Errorf("%s of %v = %v, %d, not %v, %d", name, s.ring(), got, err, want, wantErr)
		return
	}
	t.Errorf("%s of Cap %d, Head %d, Len %d = Cap %d, Head %d, Len %d, %d, not Cap %d, Head %d, Len %d, %d, or other cells", name, s.size, s.head, len(s.list), got.Cap, got.Head, got.Len, err, want.Cap, want.Head, want.Len, wantErr)
}

func TestNew(t *testing.T) {
	for _, n := range []int{1, 2, 3, 64, 1000, api.MaxCap - 1, api.MaxCap} {
		got, err := New(n)
		if err != api.OK || !same(got, api.Ring{Cap: n, Cells: make([]api.Item, n)}) {
			t.Errorf("New(%d) = Cap %d, Head %d, Len %d, %d cells, %d", n, got.Cap, got.Head, got.Len, len(got.Cells), err)
		}
		if Validate(got) != api.OK {
			t.Errorf("New(%d) is not valid", n)
		}
	}
	for _, n := range []int{0, -1, -2, -api.MaxCap, least, api.MaxCap + 1, 2 * api.MaxCap, 1 << 32, most} {
		if got, err := New(n); err != api.ErrArg || !same(got, api.Ring{}) {
			t.Errorf("New(%d) = %v, %d", n, got, err)
		}
	}
}

func TestNewMakesOtherCells(t *testing.T) {
	a, _ := New(2)
	a.Cells[0] = api.Item{T: 1, V: 1}
	if b, _ := New(2); b.Cells[0] != (api.Item{}) {
		t.Error("two new buffers share their cells")
	}
}

func TestValidateShapes(t *testing.T) {
	for _, s := range shapes() {
		if err := Validate(s.ring()); err != api.OK {
			t.Errorf("Validate of Cap %d, Head %d, Len %d = %d", s.size, s.head, len(s.list), err)
		}
	}
}

// inUse reports whether a cell holds an element, by a walk over the elements.
func inUse(r api.Ring, cell int) bool {
	c := r.Head
	for range r.Len {
		if c == cell {
			return true
		}
		c = after(c, r.Cap)
	}
	return false
}

// expected returns what Validate returns for a buffer with Cap cells, for a Cap from 1 to MaxCap.
func expected(r api.Ring) api.Errno {
	if r.Head < 0 || r.Head > r.Cap-1 || r.Len < 0 || r.Len > r.Cap {
		return api.ErrState
	}
	for cell, x := range r.Cells {
		if (x.T != 0 || x.V != 0) && !inUse(r, cell) {
			return api.ErrState
		}
	}
	return api.OK
}

// TestValidateAllSmallBuffers tries every Head and Len in and around the ranges with every choice of cells that are not zero.
func TestValidateAllSmallBuffers(t *testing.T) {
	seen := map[api.Errno]int{}
	for size := 1; size <= 4; size++ {
		for head := -2; head <= size+1; head++ {
			for n := -2; n <= size+2; n++ {
				for marked := range 1 << size {
					for _, mark := range []api.Item{{T: 1}, {V: -1}, {T: 3, V: 4}} {
						r := api.Ring{Cap: size, Head: head, Len: n, Cells: make([]api.Item, size)}
						for i := range size {
							if marked>>i&1 == 1 {
								r.Cells[i] = mark
							}
						}
						want := expected(r)
						seen[want]++
						if err := Validate(r); err != want {
							t.Errorf("Validate(%v) = %d, not %d", r, err, want)
						}
					}
				}
			}
		}
	}
	if seen[api.OK] < 500 || seen[api.ErrState] < 500 {
		t.Errorf("the results are too much alike: %v", seen)
	}
}

func TestValidateCells(t *testing.T) {
	x := api.Item{T: 1, V: 2}
	spare := append(make([]api.Item, 0, 4), x, api.Item{})
	spare[:4][3] = x
	for i, c := range []struct {
		r    api.Ring
		want api.Errno
	}{
		// An element may be any item, the zero one too.
		{api.Ring{Cap: 1, Len: 1, Cells: []api.Item{{}}}, api.OK}, {api.Ring{Cap: 2, Head: 1, Len: 2, Cells: []api.Item{{}, {}}}, api.OK}, {api.Ring{Cap: 1, Len: 1, Cells: []api.Item{{T: math.MinInt64, V: math.MaxInt64}}}, api.OK},
		{api.Ring{Cap: 1, Cells: []api.Item{{T: math.MinInt64}}}, api.ErrState}, {api.Ring{Cap: 1, Cells: []api.Item{{V: math.MinInt64}}}, api.ErrState},
		// The number of cells is not Cap.
		{api.Ring{Cap: 1}, api.ErrState}, {api.Ring{Cap: 1, Cells: []api.Item{}}, api.ErrState}, {api.Ring{Cap: 1, Cells: make([]api.Item, 2)}, api.ErrState}, {api.Ring{Cap: 3, Cells: make([]api.Item, 2)}, api.ErrState}, {api.Ring{Cap: 3, Cells: make([]api.Item, 2, 3)}, api.ErrState}, {api.Ring{Cap: 3, Cells: make([]api.Item, 4)}, api.ErrState},
		{api.Ring{Cap: api.MaxCap, Cells: make([]api.Item, api.MaxCap-1)}, api.ErrState}, {api.Ring{Cap: api.MaxCap, Cells: make([]api.Item, api.MaxCap+1)}, api.ErrState}, {api.Ring{Cap: api.MaxCap}, api.ErrState},
		// What lies behind the cells does not matter.
		{api.Ring{Cap: 2, Len: 1, Cells: spare}, api.OK}, {api.Ring{Cap: 2, Len: 1, Cells: spare[:2:2]}, api.OK}, {api.Ring{Cap: 4, Len: 2, Cells: spare[:4]}, api.ErrState},
	} {
		if err := Validate(c.r); err != c.want {
			t.Errorf("case %d: %d, not %d", i, err, c.want)
		}
	}
}

// invalid returns buffers that are not valid.
func invalid() []api.Ring {
	x := api.Item{T: 1, V: 2}
	two := make([]api.Item, 2)
	list := []api.Ring{
		{}, {Cells: two}, {Cap: -1}, {Cap: -2, Cells: two}, {Cap: least}, {Cap: most}, {Cap: most, Cells: two}, {Cap: 1}, {Cap: 1, Cells: two}, {Cap: 3, Cells: two}, {Len: 1}, {Cap: 0, Head: 0, Len: 0, Cells: []api.Item{}},
		{Cap: 2, Head: -1, Cells: two}, {Cap: 2, Head: 2, Cells: two}, {Cap: 2, Head: least, Cells: two}, {Cap: 2, Head: most, Cells: two}, {Cap: 2, Head: 2, Len: 2, Cells: two}, {Cap: 2, Head: -2, Len: 2, Cells: two},
		{Cap: 2, Len: -1, Cells: two}, {Cap: 2, Len: 3, Cells: two}, {Cap: 2, Len: least, Cells: two}, {Cap: 2, Len: most, Cells: two}, {Cap: 2, Head: 1, Len: -1, Cells: two}, {Cap: 2, Head: 1, Len: 3, Cells: two},
		{Cap: 2, Cells: []api.Item{x, {}}}, {Cap: 2, Cells: []api.Item{{}, x}}, {Cap: 2, Len: 1, Cells: []api.Item{x, x}}, {Cap: 2, Len: 1, Cells: []api.Item{{}, x}}, {Cap: 2, Head: 1, Len: 1, Cells: []api.Item{x, {}}}, {Cap: 3, Head: 2, Len: 2, Cells: []api.Item{x, x, x}}, {Cap: 3, Head: 1, Len: 1, Cells: []api.Item{{}, x, {V: 1}}}, {Cap: 3, Head: 1, Len: 1, Cells: []api.Item{{T: 1}, x, {}}},
		{Cap: api.MaxCap + 1, Cells: make([]api.Item, api.MaxCap+1)}, {Cap: api.MaxCap + 1, Len: api.MaxCap + 1, Cells: items(api.MaxCap + 1)},
	}
	// One cell that is not zero, at either end of the cells without an element.
	for _, cell := range []int{0, api.MaxCap - 2} {
		r := layout(api.MaxCap, api.MaxCap-1, items(1))
		r.Cells[cell] = x
		list = append(list, r)
	}
	return list
}

func TestInvalidBuffers(t *testing.T) {
	for i, r := range invalid() {
		if err := Validate(r); err != api.ErrState {
			t.Errorf("buffer %d: Validate = %d", i, err)
		}
		if list := Items(r); list != nil {
			t.Errorf("buffer %d: Items = %v", i, list)
		}
		for _, n := range []int{0, 1, 2, -1, least, most} {
			if x, err := At(r, n); err != api.ErrState || x != (api.Item{}) {
				t.Errorf("buffer %d: At(%d) = %v, %d", i, n, x, err)
			}
		}
		for name, f := range calls() {
			if got, x, err := f(r); err != api.ErrState || !same(got, api.Ring{}) || x != (api.Item{}) {
				t.Errorf("buffer %d: %s = %v, %v, %d", i, name, got, x, err)
			}
		}
	}
}

// calls returns the functions that return a buffer, each with ordinary and with invalid other arguments.
func calls() map[string]func(api.Ring) (api.Ring, api.Item, api.Errno) {
	x := api.Item{T: 7, V: 8}
	m := map[string]func(api.Ring) (api.Ring, api.Item, api.Errno){"PopFront": PopFront, "PopBack": PopBack}
	add := func(name string, f func(api.Ring) (api.Ring, api.Errno)) {
		m[name] = func(r api.Ring) (api.Ring, api.Item, api.Errno) {
			got, err := f(r)
			return got, api.Item{}, err
		}
	}
	add("PushBack", func(r api.Ring) (api.Ring, api.Errno) { return PushBack(r, x) })
	add("PushFront", func(r api.Ring) (api.Ring, api.Errno) { return PushFront(r, x) })
	add("PushBack of zero", func(r api.Ring) (api.Ring, api.Errno) { return PushBack(r, api.Item{}) })
	add("PushFront of zero", func(r api.Ring) (api.Ring, api.Errno) { return PushFront(r, api.Item{}) })
	add("Rotate by 0", func(r api.Ring) (api.Ring, api.Errno) { return Rotate(r, 0) })
	add("Rotate by 2", func(r api.Ring) (api.Ring, api.Errno) { return Rotate(r, 2) })
	add("Rotate by -1", func(r api.Ring) (api.Ring, api.Errno) { return Rotate(r, -1) })
	add("Rotate by too much", func(r api.Ring) (api.Ring, api.Errno) { return Rotate(r, api.MaxCap+1) })
	add("Grow to 0", func(r api.Ring) (api.Ring, api.Errno) { return Grow(r, 0) })
	add("Grow to 1", func(r api.Ring) (api.Ring, api.Errno) { return Grow(r, 1) })
	add("Grow to 9", func(r api.Ring) (api.Ring, api.Errno) { return Grow(r, 9) })
	add("Grow to too much", func(r api.Ring) (api.Ring, api.Errno) { return Grow(r, api.MaxCap+1) })
	return m
}

func TestItems(t *testing.T) {
	for _, s := range shapes() {
		if got := Items(s.ring()); !slices.Equal(got, s.list) {
			t.Errorf("Items of Cap %d, Head %d, Len %d: %d elements, or others", s.size, s.head, len(s.list), len(got))
		}
	}
	zeros := api.Ring{Cap: 3, Head: 2, Len: 2, Cells: make([]api.Item, 3)}
	if got := Items(zeros); !slices.Equal(got, make([]api.Item, 2)) {
		t.Errorf("Items of two zero elements = %v", got)
	}
}

func TestAt(t *testing.T) {
	for _, s := range shapes() {
		r, n := s.ring(), len(s.list)
		places := []int{0, 1, n / 2, n - 1}
		if s.small() {
			places = append(places, 2, 3, 4, 5)
		}
		for _, i := range places {
			if i < 0 || i >= n {
				continue
			}
			if x, err := At(r, i); err != api.OK || x != s.list[i] {
				t.Errorf("At(%d) of Cap %d, Head %d, Len %d = %v, %d", i, s.size, s.head, n, x, err)
			}
		}
		for _, i := range []int{-1, -2, -s.size, least, n, n + 1, n + s.size, 2 * api.MaxCap, most} {
			if x, err := At(r, i); err != api.ErrArg || x != (api.Item{}) {
				t.Errorf("At(%d) of Cap %d, Head %d, Len %d = %v, %d", i, s.size, s.head, n, x, err)
			}
		}
	}
}

func TestExample(t *testing.T) {
	x, y := api.Item{T: 1, V: 10}, api.Item{T: 2, V: 20}
	empty, _ := New(2)
	one, _ := PushBack(empty, x)
	both, err := PushFront(one, y)
	if want := (api.Ring{Cap: 2, Head: 1, Len: 2, Cells: []api.Item{x, y}}); err != api.OK || !same(both, want) {
		t.Errorf("after both pushes: %v, %d", both, err)
	}
	if list := Items(both); !slices.Equal(list, []api.Item{y, x}) {
		t.Errorf("the elements are %v", list)
	}
	left, popped, err := PopBack(both)
	if want := (api.Ring{Cap: 2, Head: 1, Len: 1, Cells: []api.Item{{}, y}}); err != api.OK || popped != x || !same(left, want) {
		t.Errorf("PopBack = %v, %v, %d", left, popped, err)
	}
}

func TestPushes(t *testing.T) {
	for _, s := range shapes() {
		for _, x := range []api.Item{{T: 7, V: 8}, {}, {T: math.MinInt64, V: math.MaxInt64}, {V: math.MinInt64}} {
			back, front, want := api.Ring{}, api.Ring{}, api.ErrFull
			if len(s.list) < s.size {
				back = layout(s.size, s.head, append(slices.Clone(s.list), x))
				front = layout(s.size, before(s.head, s.size), with(x, s.list))
				want = api.OK
			}
			got, err := PushBack(s.ring(), x)
			check(t, "PushBack", s, got, err, back, want)
			got, err = PushFront(s.ring(), x)
			check(t, "PushFront", s, got, err, front, want)
			if !s.small() {
				// Other items do not change what is tried in a great buffer.
				break
			}
		}
	}
}

func TestPops(t *testing.T) {
	for _, s := range shapes() {
		var front, back api.Ring
		var first, last api.Item
		want := api.ErrEmpty
		if n := len(s.list); n > 0 {
			front = layout(s.size, after(s.head, s.size), s.list[1:])
			back = layout(s.size, s.head, s.list[:n-1])
			first, last, want = s.list[0], s.list[n-1], api.OK
		}
		got, x, err := PopFront(s.ring())
		check(t, "PopFront", s, got, err, front, want)
		if x != first {
			t.Errorf("PopFront returned %v, not %v", x, first)
		}
		got, x, err = PopBack(s.ring())
		check(t, "PopBack", s, got, err, back, want)
		if x != last {
			t.Errorf("PopBack returned %v, not %v", x, last)
		}
	}
}

func TestRotateSmallBuffers(t *testing.T) {
	for _, s := range shapes() {
		if !s.small() {
			continue
		}
		head := s.head
		for n := range 4*s.size + 1 {
			want := layout(s.size, head, nil)
			if len(s.list) > 0 {
				want = layout(s.size, head, turned(s.list, n))
				head = after(head, s.size)
			}
			got, err := Rotate(s.ring(), n)
			check(t, "Rotate", s, got, err, want, api.OK)
		}
	}
}

func TestRotateFar(t *testing.T) {
	for _, s := range shapes() {
		for _, n := range []int{0, 1, len(s.list), len(s.list) + 1, s.size, api.MaxCap - 1, api.MaxCap} {
			if n > api.MaxCap {
				continue
			}
			want := s.ring()
			if k := len(s.list); k > 0 {
				// Each move takes the head one cell further, also where the elements come back to their order.
				want = layout(s.size, (s.head+n)%s.size, slices.Concat(s.list[n%k:], s.list[:n%k]))
			}
			got, err := Rotate(s.ring(), n)
			check(t, "Rotate", s, got, err, want, api.OK)
		}
		for _, n := range []int{-1, -2, -api.MaxCap, least, api.MaxCap + 1, 2 * api.MaxCap, 1 << 32, most} {
			got, err := Rotate(s.ring(), n)
			check(t, "Rotate", s, got, err, api.Ring{}, api.ErrArg)
		}
	}
}

// TestRotateIsPopsAndPushes compares Rotate with the calls that it stands for.
func TestRotateIsPopsAndPushes(t *testing.T) {
	for _, s := range shapes() {
		if !s.small() || len(s.list) == 0 {
			continue
		}
		r := s.ring()
		for n := 1; n <= 15; n++ {
			rest, x, _ := PopFront(r)
			r, _ = PushBack(rest, x)
			got, err := Rotate(s.ring(), n)
			check(t, "Rotate", s, got, err, r, api.OK)
		}
	}
}

func TestGrow(t *testing.T) {
	for _, s := range shapes() {
		n := len(s.list)
		for _, size := range []int{n, n + 1, s.size - 1, s.size, s.size + 1, 2 * s.size, 1, api.MaxCap - 1, api.MaxCap} {
			if size < 1 || size < n || size > api.MaxCap {
				continue
			}
			got, err := Grow(s.ring(), size)
			check(t, "Grow", s, got, err, layout(size, 0, s.list), api.OK)
		}
		// The last one is less than Len, or below 1 if Len is 0.
		for _, size := range []int{0, -1, -s.size, least, api.MaxCap + 1, 2 * api.MaxCap, 1 << 32, most, n - 1} {
			got, err := Grow(s.ring(), size)
			check(t, "Grow", s, got, err, api.Ring{}, api.ErrArg)
		}
	}
}

func TestGrowKeepsZeroElements(t *testing.T) {
	r := api.Ring{Cap: 3, Head: 2, Len: 3, Cells: []api.Item{{}, {V: 1}, {}}}
	got, err := Grow(r, 4)
	if want := (api.Ring{Cap: 4, Len: 3, Cells: []api.Item{{}, {}, {V: 1}, {}}}); err != api.OK || !same(got, want) {
		t.Errorf("Grow = %v, %d, not %v", got, err, want)
	}
}

// withSpare returns the buffer with memory behind its cells, and all of that memory.
func withSpare(r api.Ring) (api.Ring, []api.Item) {
	memory := append(slices.Clone(r.Cells), api.Item{T: 91, V: 92}, api.Item{T: 93, V: 94}, api.Item{T: 95, V: 96})
	r.Cells = memory[:len(r.Cells)]
	return r, memory
}

// scribble overwrites the memory of a list up to its capacity.
func scribble(list []api.Item) {
	list = list[:cap(list)]
	for i := range list {
		list[i] = api.Item{T: -5, V: -6}
	}
}

// TestArgumentsStay checks that no call changes its argument or the memory behind it, and that results are new memory.
func TestArgumentsStay(t *testing.T) {
	var list []api.Ring
	for _, s := range shapes() {
		list = append(list, s.ring())
	}
	for _, plain := range append(list, invalid()...) {
		r, memory := withSpare(plain)
		kept := slices.Clone(memory)
		for name, f := range calls() {
			got, _, _ := f(r)
			if !slices.Equal(memory, kept) {
				t.Fatalf("%s changed its argument", name)
			}
			scribble(got.Cells)
			if !slices.Equal(memory, kept) {
				t.Fatalf("the result of %s shares memory with its argument", name)
			}
		}
		Validate(r)
		At(r, 0)
		scribble(Items(r))
		if !slices.Equal(memory, kept) {
			t.Fatal("Validate, At or Items changed the argument, or Items shares memory with it")
		}
	}
}

// step makes one random call and returns the buffer after it, which it also checks against the shape.
func step(t *testing.T, source *rand.Rand, r api.Ring, s shape) (api.Ring, shape) {
	t.Helper()
	x := api.Item{T: int64(source.Intn(3)), V: int64(source.Intn(3)) - 1}
	n, full, empty := len(s.list), len(s.list) == s.size, len(s.list) == 0
	var err api.Errno
	got, next := r, s
	switch op := source.Intn(8); {
	case op <= 1 && !full:
		got, err = PushBack(r, x)
		next.list = append(slices.Clone(s.list), x)
	case op <= 3 && !full:
		got, err = PushFront(r, x)
		next.head, next.list = before(s.head, s.size), with(x, s.list)
	case op == 4 && !empty:
		got, _, err = PopFront(r)
		next.head, next.list = after(s.head, s.size), s.list[1:]
	case op == 5 && !empty:
		got, _, err = PopBack(r)
		next.list = s.list[:n-1]
	case op == 6 && !empty:
		k := source.Intn(20)
		got, err = Rotate(r, k)
		next.head, next.list = (s.head+k)%s.size, turned(s.list, k)
	case op == 7 && source.Intn(4) == 0:
		next.size, next.head = max(n, 1)+source.Intn(5), 0
		got, err = Grow(r, next.size)
	}
	check(t, "a random call", s, got, err, next.ring(), api.OK)
	return got, next
}

// TestRandomCalls makes long sequences of calls, and checks at the end that no call has changed an earlier buffer.
func TestRandomCalls(t *testing.T) {
	source := rand.New(rand.NewSource(11))
	for range 60 {
		s := shape{size: 1 + source.Intn(6)}
		r, _ := New(s.size)
		rings, all := []api.Ring{r}, []shape{s}
		for range 300 {
			r, s = step(t, source, r, s)
			if t.Failed() {
				return
			}
			if !slices.Equal(Items(r), s.list) {
				t.Fatalf("Items(%v) are not %v", r, s.list)
			}
			rings, all = append(rings, r), append(all, s)
		}
		for i, old := range rings {
			if !same(old, all[i].ring()) {
				t.Fatalf("buffer %d was changed by a later call", i)
			}
		}
	}
}
