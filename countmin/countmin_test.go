package countmin

import (
	"bytes"
	"encoding/binary"
	"math"
	"slices"
	"strings"
	"testing"

	"sketchstore/api"
	"sketchstore/mixer"
)

// The limits of the chapter, written once more so that wrong ones show.
const (
	most     = 4294967295
	mostRows = 8
	mostWide = 64
)

// edges are the numbers at which a limit or a product could go wrong.
func edges() []int {
	return []int{
		math.MinInt, math.MinInt + 1, -1 << 61, -1 << 32, -64, -9, -8, -2, -1,
		0, 1, 2, 3, 7, 8, 9, 63, 64, 65, 66, 247, 248, 249, 255, 256, 257, 1 << 16,
		1 << 31, most - 1, most, most + 1, most + 2, 1 << 61, 1<<61 + 1, 1 << 62, math.MaxInt - 1, math.MaxInt,
	}
}

func same(a, b api.CountMin) bool {
	return a.Depth == b.Depth && a.Size == b.Size && a.Seed == b.Seed &&
		a.Saturated == b.Saturated && slices.Equal(a.Cells, b.Cells)
}

func isZero(c api.CountMin) bool {
	return same(c, api.CountMin{})
}

// cellsOf is the second sentence of P7.2, on mixer alone.
func cellsOf(c api.CountMin, key string) []int {
	var l []int
	for row := range c.Depth {
		hash, _ := mixer.Hash(mixer.Table(mixer.Row(c.Seed, row)), key)
		l = append(l, row*c.Size+int(hash%uint64(c.Size)))
	}
	return l
}

// inserted is P7.3 for a valid sketch and a valid item.
func inserted(c api.CountMin, x api.Item) api.CountMin {
	c.Cells = slices.Clone(c.Cells)
	for _, i := range cellsOf(c, x.Key) {
		sum := c.Cells[i] + x.Weight
		c.Saturated = c.Saturated || sum > most
		c.Cells[i] = min(sum, most)
	}
	return c
}

// codeOf is wire.EncodeUint of a number that is not negative.
func codeOf(n int) []byte {
	if n < 248 {
		return []byte{byte(n)}
	}
	digits := bytes.TrimLeft(binary.BigEndian.AppendUint64(nil, uint64(n)), "\x00")
	return append([]byte{byte(247 + len(digits))}, digits...)
}

// join returns the encoding that P7.6 describes, of any numbers.
func join(depth, size int, seed uint64, numbers ...int) []byte {
	b := append(codeOf(depth), codeOf(size)...)
	b = binary.BigEndian.AppendUint64(b, seed)
	for _, n := range numbers {
		b = append(b, codeOf(n)...)
	}
	return b
}

// joined is the encoding of a valid sketch.
func joined(c api.CountMin) []byte {
	saturated := 0
	if c.Saturated {
		saturated = 1
	}
	return join(c.Depth, c.Size, c.Seed, append(slices.Clone(c.Cells), saturated)...)
}

// words returns the first n numbers of a fixed sequence.
func words(n int) []uint64 {
	var l []uint64
	for i := range n {
		l = append(l, mixer.Mix(uint64(i)*12345+678))
	}
	return l
}

// sketchOf returns a sketch whose cells have all sizes, small and great.
func sketchOf(depth, size int, seed uint64, saturated bool) api.CountMin {
	c := api.CountMin{Depth: depth, Size: size, Seed: seed, Saturated: saturated}
	for i, x := range words(depth * size) {
		c.Cells = append(c.Cells, int(x&most>>(uint(i)%33)))
	}
	return c
}

// shapes are some of the valid pairs of depth and size.
func shapes() [][2]int {
	return [][2]int{{1, 1}, {1, 2}, {2, 1}, {3, 5}, {5, 3}, {8, 1}, {1, 64}, {7, 63}, {8, 64}}
}

func badSketches() []api.CountMin {
	return []api.CountMin{
		{},
		{Depth: 1, Size: 1},
		{Depth: 1, Size: 1, Cells: []int{-1}},
		{Depth: 1, Size: 1, Cells: []int{most + 1}, Saturated: true},
		{Depth: 1, Size: 2, Cells: []int{0}},
		{Depth: 9, Size: 1, Cells: make([]int, 9)},
		{Depth: 1, Size: 65, Cells: make([]int, 65)},
	}
}

func TestNew(t *testing.T) {
	for _, seed := range []uint64{0, 1, 99, 1 << 63, math.MaxUint64} {
		for depth := -2; depth <= mostRows+2; depth++ {
			for size := -2; size <= mostWide+2; size++ {
				checkNew(t, depth, size, seed)
			}
		}
		for _, depth := range edges() {
			for _, size := range edges() {
				checkNew(t, depth, size, seed)
			}
		}
	}
}

func checkNew(t *testing.T, depth, size int, seed uint64) {
	c, e := New(depth, size, seed)
	if depth < 1 || depth > mostRows || size < 1 || size > mostWide {
		if e != api.ErrRange || !isZero(c) {
			t.Errorf("New(%d, %d, %d) = %v, %d", depth, size, seed, c, e)
		}
		return
	}
	want := api.CountMin{Depth: depth, Size: size, Seed: seed, Cells: make([]int, depth*size)}
	if e != api.OK || !same(c, want) {
		t.Errorf("New(%d, %d, %d) = %v, %d", depth, size, seed, c, e)
	}
	if e := Validate(c); e != api.OK {
		t.Errorf("Validate(New(%d, %d, %d)) = %d", depth, size, seed, e)
	}
}

func TestValidate(t *testing.T) {
	for _, x := range []struct {
		depth, size int
		cells       []int
		want        api.Errno
	}{
		{1, 1, []int{0}, api.OK},
		{1, 1, []int{most}, api.OK},
		{2, 3, []int{0, 1, 2, most - 1, most, 5}, api.OK},
		{8, 64, make([]int, 512), api.OK},
		{0, 0, nil, api.ErrRange},
		{0, 1, nil, api.ErrRange},
		{1, 0, nil, api.ErrRange},
		{-1, -1, []int{0}, api.ErrRange},
		{-2, -3, make([]int, 6), api.ErrRange},
		{9, 1, make([]int, 9), api.ErrRange},
		{1, 65, make([]int, 65), api.ErrRange},
		{64, 8, make([]int, 512), api.ErrRange},
		{9, 65, []int{-1}, api.ErrRange},
		// The product of these is 0 if it overflows.
		{1 << 32, 1 << 32, nil, api.ErrRange},
		{math.MinInt, 2, nil, api.ErrRange},
		{math.MaxInt, math.MaxInt, []int{0}, api.ErrRange},
		{1, 1, nil, api.ErrShape},
		{1, 1, []int{0, 0}, api.ErrShape},
		{1, 2, []int{0}, api.ErrShape},
		{2, 3, make([]int, 5), api.ErrShape},
		{2, 3, make([]int, 7), api.ErrShape},
		{8, 64, make([]int, 511), api.ErrShape},
		{8, 64, make([]int, 513), api.ErrShape},
		// The number of cells comes before their values.
		{1, 2, []int{-1}, api.ErrShape},
		{1, 1, []int{-1, most + 1}, api.ErrShape},
	} {
		for _, saturated := range []bool{false, true} {
			c := api.CountMin{Depth: x.depth, Size: x.size, Seed: 5, Cells: x.cells, Saturated: saturated}
			if e := Validate(c); e != x.want {
				t.Errorf("Validate(%v) = %d; want %d", c, e, x.want)
			}
		}
	}
}

func TestValidateOfEachCell(t *testing.T) {
	for _, shape := range shapes() {
		c := sketchOf(shape[0], shape[1], 3, false)
		for i, old := range c.Cells {
			for _, n := range edges() {
				want := api.OK
				if n < 0 || n > most {
					want = api.ErrRange
				}
				c.Cells[i] = n
				if e := Validate(c); e != want {
					t.Errorf("Validate with %d in cell %d of %v = %d; want %d", n, i, shape, e, want)
				}
			}
			c.Cells[i] = old
		}
	}
}

// The columns of this test were computed outside of the program.
func TestColumn(t *testing.T) {
	for _, x := range []struct {
		seed    uint64
		size    int
		key     string
		columns [8]int
	}{
		{0, 64, "a", [8]int{11, 0, 28, 63, 44, 42, 60, 6}},
		{0, 64, "b", [8]int{8, 7, 28, 14, 47, 41, 35, 43}},
		{1, 64, "a", [8]int{8, 33, 19, 60, 2, 41, 7, 16}},
		{7, 5, "key", [8]int{1, 1, 0, 0, 3, 0, 3, 4}},
		{99, 1, "a", [8]int{}},
		{12345, 63, "a b", [8]int{31, 19, 26, 61, 0, 5, 40, 13}},
		{math.MaxUint64, 64, "\x00", [8]int{30, 4, 39, 50, 27, 16, 60, 17}},
		{1 << 63, 64, "\xff", [8]int{13, 14, 44, 6, 29, 45, 31, 45}},
		{1 << 63, 37, strings.Repeat("k", 32), [8]int{30, 30, 9, 35, 13, 18, 20, 31}},
		{0x0102030405060708, 2, "é", [8]int{0, 0, 0, 0, 0, 1, 1, 0}},
	} {
		for row, want := range x.columns {
			if n, e := Column(x.seed, row, x.size, x.key); n != want || e != api.OK {
				t.Errorf("Column(%d, %d, %d, %q) = %d, %d; want %d", x.seed, row, x.size, x.key, n, e, want)
			}
		}
	}
}

func TestColumnOfEachSize(t *testing.T) {
	for _, key := range []string{"a", "\x00\xff", strings.Repeat("x", 32)} {
		for _, seed := range words(3) {
			for row := range mostRows {
				hash, _ := mixer.Hash(mixer.Table(mixer.Row(seed, row)), key)
				for size := 1; size <= mostWide; size++ {
					want := int(hash % uint64(size))
					if n, e := Column(seed, row, size, key); n != want || e != api.OK {
						t.Errorf("Column(%d, %d, %d, %q) = %d, %d; want %d", seed, row, size, key, n, e, want)
					}
				}
			}
		}
	}
}

func TestErrorsOfColumn(t *testing.T) {
	long := strings.Repeat("k", 33)
	for _, row := range edges() {
		for _, size := range edges() {
			for _, key := range []string{"a", "", long} {
				want := api.OK
				if row < 0 || row > mostRows-1 || size < 1 || size > mostWide {
					want = api.ErrRange
				} else if key != "a" {
					want = api.ErrKey
				}
				n, e := Column(4, row, size, key)
				if e != want || e != api.OK && n != 0 {
					t.Errorf("Column(4, %d, %d, %q) = %d, %d; want error %d", row, size, key, n, e, want)
				}
			}
		}
	}
}

// The cells of this test were computed outside of the program.
func TestInsertAndEstimate(t *testing.T) {
	c, _ := New(3, 5, 7)
	for _, x := range []api.Item{{Key: "a", Weight: 3}, {Key: "b", Weight: 4}, {Key: "a", Weight: 5}, {Key: "c", Weight: 300}, {Key: "key", Weight: 1}} {
		var e api.Errno
		if c, e = Insert(c, x); e != api.OK {
			t.Fatalf("Insert of %v: error %d", x, e)
		}
	}
	want := api.CountMin{Depth: 3, Size: 5, Seed: 7, Cells: []int{8, 301, 0, 0, 4, 0, 305, 8, 0, 0, 1, 4, 8, 0, 300}}
	if !same(c, want) {
		t.Errorf("the sketch is %v; want %v", c, want)
	}
	for key, want := range map[string]int{"a": 8, "b": 4, "c": 300, "key": 1, "z": 0} {
		if n, e := Estimate(c, key); n != want || e != api.OK {
			t.Errorf("Estimate of %q = %d, %d; want %d", key, n, e, want)
		}
	}
}

func TestInsertOfEachWeight(t *testing.T) {
	keys := []string{"a", "\x00", "\xff", " ", "é", strings.Repeat("k", 32)}
	for _, shape := range shapes() {
		for _, saturated := range []bool{false, true} {
			c := sketchOf(shape[0], shape[1], 11, saturated)
			for _, key := range keys {
				for _, weight := range edges() {
					item := api.Item{Key: key, Weight: weight}
					want, wantError := api.CountMin{}, api.ErrRange
					if weight >= 1 && weight <= most {
						want, wantError = inserted(c, item), api.OK
					}
					if d, e := Insert(c, item); e != wantError || !same(d, want) {
						t.Errorf("Insert(%v, %v) = %v, %d; want %v, %d", c, item, d, e, want, wantError)
					}
				}
			}
		}
	}
}

func TestSaturationOfOneCell(t *testing.T) {
	empty, _ := New(4, 8, 2)
	for _, cell := range cellsOf(empty, "a") {
		for _, x := range []struct {
			before, weight, after int
			saturated             bool
		}{
			{most - 2, 1, most - 1, false},
			{most - 1, 1, most, false},
			{most - 1, 2, most, true},
			{most, 1, most, true},
			{0, most, most, false},
			{1, most, most, true},
			{most, most, most, true},
		} {
			c, _ := New(4, 8, 2)
			c.Cells[cell] = x.before
			d, e := Insert(c, api.Item{Key: "a", Weight: x.weight})
			if e != api.OK || d.Cells[cell] != x.after || d.Saturated != x.saturated {
				t.Errorf("cell %d with %d and %d more: %v, %d", cell, x.before, x.weight, d, e)
			}
			c.Saturated = true
			if d, e = Insert(c, api.Item{Key: "a", Weight: x.weight}); e != api.OK || !d.Saturated {
				t.Errorf("Insert forgets the saturation: %v, %d", d, e)
			}
		}
	}
}

// A full cell of other keys does not make the sketch saturated.
func TestFullCellsOfOtherKeys(t *testing.T) {
	c, _ := New(4, 8, 2)
	own := cellsOf(c, "a")
	for i := range c.Cells {
		if !slices.Contains(own, i) {
			c.Cells[i] = most
		}
	}
	if d, e := Insert(c, api.Item{Key: "a", Weight: 6}); e != api.OK || d.Saturated || !same(d, inserted(c, api.Item{Key: "a", Weight: 6})) {
		t.Errorf("Insert(%v) = %v, %d", c, d, e)
	}
}

func TestErrorsOfInsert(t *testing.T) {
	good := sketchOf(3, 5, 7, true)
	shape := api.CountMin{Depth: 3, Size: 5}
	full := api.CountMin{Depth: 1, Size: 1, Cells: []int{most + 1}}
	long := strings.Repeat("k", 33)
	for _, x := range []struct {
		c    api.CountMin
		item api.Item
		want api.Errno
	}{
		{good, api.Item{}, api.ErrKey},
		{good, api.Item{Weight: 1}, api.ErrKey},
		{good, api.Item{Key: long, Weight: 1}, api.ErrKey},
		{good, api.Item{Key: long, Weight: -1}, api.ErrKey},
		{good, api.Item{Key: "a"}, api.ErrRange},
		{good, api.Item{Key: "a", Weight: -1}, api.ErrRange},
		{good, api.Item{Key: "a", Weight: most + 1}, api.ErrRange},
		{shape, api.Item{Key: "a", Weight: 1}, api.ErrShape},
		{shape, api.Item{}, api.ErrShape},
		{shape, api.Item{Key: "a"}, api.ErrShape},
		{full, api.Item{Key: "a", Weight: 1}, api.ErrRange},
		{full, api.Item{Weight: 1}, api.ErrRange},
		{api.CountMin{}, api.Item{}, api.ErrRange},
	} {
		if d, e := Insert(x.c, x.item); e != x.want || !isZero(d) {
			t.Errorf("Insert(%v, %v) = %v, %d; want error %d", x.c, x.item, d, e, x.want)
		}
	}
	for _, bad := range badSketches() {
		if d, e := Insert(bad, api.Item{}); e != Validate(bad) || !isZero(d) {
			t.Errorf("Insert(%v, zero item) = %v, %d", bad, d, e)
		}
	}
}

func TestMerge(t *testing.T) {
	for _, x := range []struct {
		a, b, sum                int
		aFlag, bFlag, saturation bool
	}{
		{0, 0, 0, false, false, false},
		{3, 4, 7, false, false, false},
		{3, 4, 7, true, false, true},
		{3, 4, 7, false, true, true},
		{3, 4, 7, true, true, true},
		{most - 1, 1, most, false, false, false},
		{most - 1, 2, most, false, false, true},
		{most, 0, most, false, false, false},
		{most, 1, most, false, false, true},
		{most, most, most, false, false, true},
		{most, most, most, true, true, true},
	} {
		// Each place in turn has the numbers; the others have 5 and 6.
		for i := range 6 {
			a := api.CountMin{Depth: 2, Size: 3, Seed: 9, Cells: slices.Repeat([]int{5}, 6), Saturated: x.aFlag}
			b := api.CountMin{Depth: 2, Size: 3, Seed: 9, Cells: slices.Repeat([]int{6}, 6), Saturated: x.bFlag}
			want := api.CountMin{Depth: 2, Size: 3, Seed: 9, Cells: slices.Repeat([]int{11}, 6), Saturated: x.saturation}
			a.Cells[i], b.Cells[i], want.Cells[i] = x.a, x.b, x.sum
			if c, e := Merge(a, b); e != api.OK || !same(c, want) {
				t.Errorf("Merge(%v, %v) = %v, %d; want %v", a, b, c, e, want)
			}
			if c, e := Merge(b, a); e != api.OK || !same(c, want) {
				t.Errorf("Merge(%v, %v) = %v, %d; want %v", b, a, c, e, want)
			}
		}
	}
}

func TestMergeOfEachShape(t *testing.T) {
	for _, shape := range shapes() {
		a := sketchOf(shape[0], shape[1], 1<<63+1, false)
		b := inserted(a, api.Item{Key: "more", Weight: 12})
		slices.Reverse(b.Cells)
		want := api.CountMin{Depth: a.Depth, Size: a.Size, Seed: a.Seed, Saturated: b.Saturated}
		for i := range a.Cells {
			sum := a.Cells[i] + b.Cells[i]
			want.Cells = append(want.Cells, min(sum, most))
			want.Saturated = want.Saturated || sum > most
		}
		if c, e := Merge(a, b); e != api.OK || !same(c, want) {
			t.Errorf("Merge(%v, %v) = %v, %d; want %v", a, b, c, e, want)
		}
	}
}

func TestMergeEqualsInsertionOfTheUnion(t *testing.T) {
	items := []api.Item{{Key: "a", Weight: 1}, {Key: "b", Weight: 7}, {Key: "a", Weight: most - 20}, {Key: "c", Weight: 9}, {Key: "a", Weight: 19}, {Key: "b", Weight: 1}, {Key: "d", Weight: 2}, {Key: "a", Weight: most}}
	for n := range len(items) + 1 {
		for split := range n + 1 {
			all, _ := New(4, 6, 21)
			left, right := all, all
			for i, x := range items[:n] {
				all, _ = Insert(all, x)
				if i < split {
					left, _ = Insert(left, x)
				} else {
					right, _ = Insert(right, x)
				}
			}
			if c, e := Merge(left, right); e != api.OK || !same(c, all) {
				t.Errorf("Merge(%v, %v) = %v, %d; want %v", left, right, c, e, all)
			}
			if c, e := Merge(right, left); e != api.OK || !same(c, all) {
				t.Errorf("Merge(%v, %v) = %v, %d; want %v", right, left, c, e, all)
			}
		}
	}
}

func TestMergeIsAssociative(t *testing.T) {
	var l []api.CountMin
	for _, n := range []int{0, 1, 2, 1 << 31, most - 1, most} {
		for _, saturated := range []bool{false, true} {
			l = append(l, api.CountMin{Depth: 1, Size: 2, Seed: 3, Cells: []int{n, 1 << 30}, Saturated: saturated})
		}
	}
	for _, a := range l {
		for _, b := range l {
			ab, _ := Merge(a, b)
			for _, c := range l {
				bc, _ := Merge(b, c)
				left, _ := Merge(ab, c)
				right, _ := Merge(a, bc)
				if !same(left, right) {
					t.Errorf("%v, %v and %v give %v and %v", a, b, c, left, right)
				}
			}
		}
	}
}

func TestErrorsOfMerge(t *testing.T) {
	good, _ := New(3, 4, 7)
	shape := api.CountMin{Depth: 3, Size: 4, Seed: 7}
	full := api.CountMin{Depth: 1, Size: 1, Cells: []int{most + 1}}
	for _, x := range []struct {
		a, b api.CountMin
		want api.Errno
	}{
		{good, shape, api.ErrShape},
		{shape, good, api.ErrShape},
		{shape, full, api.ErrShape},
		{full, shape, api.ErrRange},
		// Invalid sketches come before different kinds.
		{good, full, api.ErrRange},
		{full, good, api.ErrRange},
		{good, api.CountMin{}, api.ErrRange},
		{api.CountMin{}, api.CountMin{}, api.ErrRange},
		{good, api.CountMin{Depth: 2, Size: 4, Seed: 7, Cells: make([]int, 8)}, api.ErrKind},
		{good, api.CountMin{Depth: 3, Size: 5, Seed: 7, Cells: make([]int, 15)}, api.ErrKind},
		{good, api.CountMin{Depth: 3, Size: 4, Seed: 8, Cells: make([]int, 12)}, api.ErrKind},
		{good, api.CountMin{Depth: 3, Size: 4, Seed: 7 + 1<<63, Cells: make([]int, 12)}, api.ErrKind},
		// As many cells, but in other rows.
		{good, api.CountMin{Depth: 4, Size: 3, Seed: 7, Cells: make([]int, 12)}, api.ErrKind},
		{good, api.CountMin{Depth: 6, Size: 2, Seed: 7, Cells: make([]int, 12), Saturated: true}, api.ErrKind},
	} {
		if c, e := Merge(x.a, x.b); e != x.want || !isZero(c) {
			t.Errorf("Merge(%v, %v) = %v, %d; want error %d", x.a, x.b, c, e, x.want)
		}
	}
	for _, bad := range badSketches() {
		if c, e := Merge(good, bad); e != Validate(bad) || !isZero(c) {
			t.Errorf("Merge(%v, %v) = %v, %d", good, bad, c, e)
		}
		if c, e := Merge(bad, good); e != Validate(bad) || !isZero(c) {
			t.Errorf("Merge(%v, %v) = %v, %d", bad, good, c, e)
		}
	}
}

func TestOneCellEstimatesTheTotal(t *testing.T) {
	c, _ := New(1, 1, 99)
	total := 0
	for i, key := range []string{"a", "b", "a", "\x00", "c"} {
		c, _ = Insert(c, api.Item{Key: key, Weight: i + 1})
		total += i + 1
		for _, asked := range []string{"a", "b", "\x00", "never"} {
			if n, e := Estimate(c, asked); n != total || e != api.OK {
				t.Errorf("Estimate of %q = %d, %d; want %d", asked, n, e, total)
			}
		}
	}
}

func TestEstimateIsTheSmallestCell(t *testing.T) {
	for _, shape := range shapes() {
		c := sketchOf(shape[0], shape[1], 77, true)
		for _, key := range []string{"a", "b", "\xff", strings.Repeat("k", 32)} {
			for row, cell := range cellsOf(c, key) {
				for _, n := range []int{0, 1, most - 1, most} {
					changed := c
					changed.Cells = slices.Clone(c.Cells)
					changed.Cells[cell] = n
					want := most
					for _, i := range cellsOf(c, key) {
						want = min(want, changed.Cells[i])
					}
					if got, e := Estimate(changed, key); got != want || e != api.OK {
						t.Errorf("Estimate(%v, %q) with %d in row %d = %d, %d; want %d", changed, key, n, row, got, e, want)
					}
				}
			}
		}
	}
}

func TestBoundsOfEstimate(t *testing.T) {
	for _, shape := range shapes() {
		c, _ := New(shape[0], shape[1], 5)
		weights := map[string]int{"never": 0}
		total := 0
		for i, x := range words(60) {
			item := api.Item{Key: "key" + string(rune('a'+x%26)), Weight: int(x>>32)%1000 + 1}
			c, _ = Insert(c, item)
			weights[item.Key] += item.Weight
			total += item.Weight
			if i%10 != 9 {
				continue
			}
			for key, weight := range weights {
				if n, e := Estimate(c, key); n < weight || n > total || e != api.OK {
					t.Errorf("shape %v: the estimate of %q is %d, %d; its weight is %d of %d", shape, key, n, e, weight, total)
				}
			}
		}
	}
}

func TestErrorsOfEstimate(t *testing.T) {
	good := sketchOf(3, 5, 7, false)
	for _, key := range []string{"", strings.Repeat("k", 33), strings.Repeat("k", 1000)} {
		if n, e := Estimate(good, key); n != 0 || e != api.ErrKey {
			t.Errorf("Estimate of %q = %d, %d", key, n, e)
		}
		for _, bad := range badSketches() {
			if n, e := Estimate(bad, key); n != 0 || e != Validate(bad) {
				t.Errorf("Estimate(%v, %q) = %d, %d", bad, key, n, e)
			}
		}
	}
	for _, bad := range badSketches() {
		if n, e := Estimate(bad, "a"); n != 0 || e != Validate(bad) {
			t.Errorf("Estimate(%v, a) = %d, %d", bad, n, e)
		}
	}
}

func TestEncode(t *testing.T) {
	for _, x := range []struct {
		c    api.CountMin
		want []byte
	}{
		{api.CountMin{Depth: 1, Size: 1, Cells: []int{0}}, []byte{1, 1, 0, 0, 0, 0, 0, 0, 0, 0, 0, 0}},
		{api.CountMin{Depth: 1, Size: 1, Cells: []int{7}, Saturated: true}, []byte{1, 1, 0, 0, 0, 0, 0, 0, 0, 0, 7, 1}},
		{
			api.CountMin{Depth: 2, Size: 3, Seed: 0x0102030405060708, Cells: []int{0, 247, 248, 300, 1 << 16, most}},
			[]byte{2, 3, 1, 2, 3, 4, 5, 6, 7, 8, 0, 247, 248, 248, 249, 1, 44, 250, 1, 0, 0, 251, 255, 255, 255, 255, 0},
		},
		{
			api.CountMin{Depth: 3, Size: 2, Seed: math.MaxUint64, Cells: []int{1, 2, 3, 4, 5, 6}, Saturated: true},
			[]byte{3, 2, 255, 255, 255, 255, 255, 255, 255, 255, 1, 2, 3, 4, 5, 6, 1},
		},
	} {
		if b, e := Encode(x.c); e != api.OK || !bytes.Equal(b, x.want) {
			t.Errorf("Encode(%v) = %v, %d; want %v", x.c, b, e, x.want)
		}
		if c, e := Decode(x.want); e != api.OK || !same(c, x.c) {
			t.Errorf("Decode(%v) = %v, %d; want %v", x.want, c, e, x.c)
		}
	}
	for _, bad := range badSketches() {
		if b, e := Encode(bad); e != Validate(bad) || len(b) > 0 {
			t.Errorf("Encode(%v) = %v, %d", bad, b, e)
		}
	}
}

func TestEncodeOfEachShape(t *testing.T) {
	for depth := 1; depth <= mostRows; depth++ {
		for size := 1; size <= mostWide; size++ {
			for _, saturated := range []bool{false, true} {
				c := sketchOf(depth, size, uint64(depth)<<60|uint64(size), saturated)
				want := joined(c)
				if b, e := Encode(c); e != api.OK || !bytes.Equal(b, want) {
					t.Errorf("Encode(%v) = %v, %d; want %v", c, b, e, want)
				}
				if again, e := Decode(want); e != api.OK || !same(again, c) {
					t.Errorf("Decode(%v) = %v, %d; want %v", want, again, e, c)
				}
			}
		}
	}
}

func TestDecodeRefuses(t *testing.T) {
	seed := make([]byte, 8)
	rows := func(depth, size int) []byte {
		return join(depth, size, 0, make([]int, depth*size+1)...)
	}
	for _, b := range [][]byte{
		nil,
		rows(0, 1),
		rows(1, 0),
		rows(0, 0),
		rows(9, 1),
		rows(1, 65),
		rows(64, 8),
		join(1<<32, 1<<32, 0, 0),
		join(1<<62, 1<<62, 0, 0),
		join(math.MaxInt, 1, 0, 0, 0),
		join(1, math.MaxInt, 0, 0, 0),
		// Too few and too many cells.
		join(1, 2, 0, 5, 0),
		join(1, 2, 0, 5, 6, 0, 0),
		join(2, 2, 0, 5, 6, 0),
		// No seed, or not all of its bytes.
		{1, 1, 7, 0},
		{1, 1, 7, 1},
		{1, 4, 1, 2, 3, 4, 1},
		{1, 5, 0, 0, 0, 0, 0, 0, 0},
		// Cells and flags out of range.
		join(1, 2, 0, most+1, 0, 0),
		join(1, 2, 0, 0, most+1, 0),
		join(1, 2, 0, 0, 1<<62, 0),
		join(1, 2, 0, 0, 1<<62+1, 0),
		join(1, 2, 0, 5, 6, 2),
		join(1, 2, 0, 5, 6, 255),
		join(1, 2, 0, 5, 6, 256),
		join(1, 2, 0, 5, 6, 257),
		join(1, 2, 0, 5, 6, 1<<32+1),
		// Numbers that wire.EncodeUint does not write in this way.
		slices.Concat([]byte{248, 1, 1}, seed, []byte{7, 0}),
		slices.Concat([]byte{1, 248, 1}, seed, []byte{7, 0}),
		slices.Concat([]byte{1, 1}, seed, []byte{248, 7, 0}),
		slices.Concat([]byte{1, 1}, seed, []byte{249, 0, 248, 0}),
		slices.Concat([]byte{1, 1}, seed, []byte{255, 0, 0, 0, 0, 0, 0, 0, 7, 0}),
		slices.Concat([]byte{1, 1}, seed, []byte{7, 248, 0}),
		slices.Concat([]byte{1, 1}, seed, []byte{7, 248, 1}),
		bytes.Repeat([]byte{0}, 12),
		bytes.Repeat([]byte{1}, 1000),
		bytes.Repeat([]byte{255}, 1000),
	} {
		if c, e := Decode(b); e != api.ErrForm || !isZero(c) {
			t.Errorf("Decode(%v) = %v, %d", b, c, e)
		}
	}
}

func TestDecodeOfChangedLists(t *testing.T) {
	for _, shape := range shapes() {
		b := joined(sketchOf(shape[0], shape[1], 0xf8f9fafbfcfdfeff, true))
		for i := range b {
			// The missing bytes still follow, as spare capacity.
			if c, e := Decode(b[:i]); e != api.ErrForm || !isZero(c) {
				t.Errorf("Decode(%v) = %v, %d", b[:i], c, e)
			}
		}
		for _, x := range []byte{0, 1, 248, 255} {
			if c, e := Decode(append(slices.Clone(b), x)); e != api.ErrForm || !isZero(c) {
				t.Errorf("Decode(%v and %d) = %v, %d", b, x, c, e)
			}
		}
		for i := range b {
			for _, x := range []byte{0, 1, 2, 8, 9, 64, 65, 247, 248, 249, 251, 252, 255} {
				changed := slices.Clone(b)
				changed[i] = x
				checkExact(t, changed)
			}
		}
	}
}

// checkExact checks that Decode finds a sketch only if its encoding is b.
func checkExact(t *testing.T, b []byte) {
	c, e := Decode(b)
	if e != api.OK {
		if e != api.ErrForm || !isZero(c) {
			t.Errorf("Decode(%v) = %v, %d", b, c, e)
		}
		return
	}
	if Validate(c) != api.OK || !bytes.Equal(joined(c), b) {
		t.Errorf("Decode(%v) = %v", b, c)
	}
}

// guard lists cells with spare capacity, so that a change of either shows.
func guard(c api.CountMin) (guarded api.CountMin, all []int) {
	all = append(slices.Clone(c.Cells), 41, 42, 43)
	c.Cells = all[:len(c.Cells)]
	return c, all
}

func TestArgumentsAreNotChanged(t *testing.T) {
	for _, shape := range shapes() {
		plain := sketchOf(shape[0], shape[1], 8, false)
		c, all := guard(plain)
		before := slices.Clone(all)
		other, otherAll := guard(plain)
		grown, _ := Insert(c, api.Item{Key: "a", Weight: 1})
		merged, _ := Merge(c, other)
		Estimate(c, "a")
		Encode(c)
		for _, d := range []api.CountMin{grown, merged} {
			clear(d.Cells[:cap(d.Cells)])
		}
		if !slices.Equal(all, before) || !slices.Equal(otherAll, before) {
			t.Errorf("the cells %v became %v and %v", before, all, otherAll)
		}
	}
}

func TestResultsAreNotShared(t *testing.T) {
	first, _ := New(1, 2, 3)
	clear(first.Cells[:cap(first.Cells)])
	first.Cells[0] = 5
	if second, _ := New(1, 2, 3); second.Cells[0] != 0 {
		t.Errorf("New = %v after a change of an earlier result", second)
	}
	c := sketchOf(2, 3, 4, true)
	want := joined(c)
	b, _ := Encode(c)
	clear(b[:cap(b)])
	wide := append(slices.Clone(want), 9, 9, 9)
	kept := slices.Clone(wide)
	d, e := Decode(wide[:len(want)])
	if e != api.OK || !same(d, c) || !bytes.Equal(wide, kept) {
		t.Errorf("Decode with spare capacity is %v, %d", d, e)
	}
	if again, _ := Encode(c); !bytes.Equal(again, want) {
		t.Errorf("Encode(%v) = %v after a change of an earlier result", c, again)
	}
}
