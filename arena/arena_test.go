package arena

import (
	"bytes"
	"math"
	"slices"
	"strings"
	"testing"

	"sketchstore/api"
)

// The limits of the chapter, written once more so that a wrong one shows.
const (
	mostPages = 1 << 14
	mostBytes = 1024
)

// open returns an arena in which pages with these texts were allocated.
func open(t *testing.T, capacity int, texts ...string) *Arena {
	t.Helper()
	a, e := New(capacity)
	if a == nil || e != api.OK {
		t.Fatalf("New(%d) = %v, %d", capacity, a, e)
	}
	for i, text := range texts {
		alloc(t, a, text, i+1)
	}
	return a
}

func alloc(t *testing.T, a *Arena, text string, want int) {
	t.Helper()
	if n, e := a.Alloc([]byte(text)); n != want || e != api.OK {
		t.Fatalf("Alloc(%.20q) = %d, %d; want %d", text, n, e, want)
	}
}

func hold(t *testing.T, a *Arena, n int) {
	t.Helper()
	if e := a.Hold(n); e != api.OK {
		t.Fatalf("Hold(%d) = %d", n, e)
	}
}

func release(t *testing.T, a *Arena, n int, want bool) {
	t.Helper()
	if freed, e := a.Release(n); freed != want || e != api.OK {
		t.Fatalf("Release(%d) = %v, %d; want %v", n, freed, e, want)
	}
}

// samePages compares two dumps; a nil list and an empty one are equal.
func samePages(a, b []api.Page) bool {
	return slices.EqualFunc(a, b, func(p, q api.Page) bool {
		return p.Number == q.Number && p.Refs == q.Refs && bytes.Equal(p.Data, q.Data)
	})
}

// check compares everything that shows in an arena with a list of pages.
func check(t *testing.T, a *Arena, want []api.Page) {
	t.Helper()
	if n := a.Live(); n != len(want) {
		t.Fatalf("Live() = %d; want %d", n, len(want))
	}
	if l := a.Dump(); !samePages(l, want) {
		t.Fatalf("Dump() = %v; want %v", l, want)
	}
	for _, p := range want {
		if b, e := a.Data(p.Number); !bytes.Equal(b, p.Data) || e != api.OK {
			t.Fatalf("Data(%d) = %q, %d; want %q", p.Number, b, e, p.Data)
		}
	}
}

func page(number, refs int, text string) api.Page {
	return api.Page{Number: number, Refs: refs, Data: []byte(text)}
}

func TestNew(t *testing.T) { // P15.1
	for _, capacity := range []int{0, 1, 2, 8, 1024, mostPages - 1, mostPages} {
		a := open(t, capacity)
		check(t, a, nil)
	}
}

func TestNewOfInvalidCapacities(t *testing.T) { // P15.1
	for _, capacity := range []int{
		math.MinInt, math.MinInt + 1, -1 << 32, 1 - 1<<32, -mostPages, -2, -1,
		mostPages + 1, mostPages + 2, 1 << 16, 1<<16 + 1, 1 << 32, 1<<32 + 8, math.MaxInt - 1, math.MaxInt,
	} {
		if a, e := New(capacity); a != nil || e != api.ErrRange {
			t.Errorf("New(%d) = %v, %d; want nil, ErrRange", capacity, a, e)
		}
	}
}

func TestArenasAreSeparate(t *testing.T) { // P15.1, R3
	a, b := open(t, 2, "a"), open(t, 2)
	check(t, b, nil)
	alloc(t, b, "b", 1)
	hold(t, b, 1)
	check(t, a, []api.Page{page(1, 1, "a")})
	check(t, b, []api.Page{page(1, 2, "b")})
	release(t, a, 1, true)
	check(t, a, nil)
	check(t, b, []api.Page{page(1, 2, "b")})
}

func TestAllocNumbersPagesFromOne(t *testing.T) { // P15.1, P15.2
	a := open(t, 4)
	alloc(t, a, "a", 1)
	check(t, a, []api.Page{page(1, 1, "a")})
	alloc(t, a, "", 2)
	check(t, a, []api.Page{page(1, 1, "a"), page(2, 1, "")})
	alloc(t, a, "a", 3)
	alloc(t, a, "\x00\xff", 4)
	check(t, a, []api.Page{page(1, 1, "a"), page(2, 1, ""), page(3, 1, "a"), page(4, 1, "\x00\xff")})
}

func TestAllocOfNil(t *testing.T) { // P15.2, R2
	a := open(t, 2)
	for want := 1; want <= 2; want++ {
		if n, e := a.Alloc(nil); n != want || e != api.OK {
			t.Errorf("Alloc(nil) = %d, %d; want %d", n, e, want)
		}
	}
	check(t, a, []api.Page{page(1, 1, ""), page(2, 1, "")})
}

func TestAllocTakesTheSmallestFreeNumber(t *testing.T) { // P15.2
	for _, x := range []struct {
		released []int
		want     []int
	}{
		{nil, []int{6, 7, 8}},
		{[]int{1}, []int{1, 6, 7}},
		{[]int{5}, []int{5, 6, 7}},
		{[]int{3}, []int{3, 6, 7}},
		{[]int{1, 2}, []int{1, 2, 6}},
		{[]int{2, 1}, []int{1, 2, 6}},
		{[]int{4, 2}, []int{2, 4, 6}},
		{[]int{2, 4}, []int{2, 4, 6}},
		{[]int{5, 1}, []int{1, 5, 6}},
		{[]int{1, 5}, []int{1, 5, 6}},
		{[]int{5, 4, 3, 2, 1}, []int{1, 2, 3, 4, 5, 6}},
		{[]int{1, 2, 3, 4, 5}, []int{1, 2, 3, 4, 5, 6}},
		{[]int{3, 5, 1}, []int{1, 3, 5, 6}},
	} {
		a := open(t, 8, "a", "b", "c", "d", "e")
		for _, n := range x.released {
			release(t, a, n, true)
		}
		for i, want := range x.want {
			if n, e := a.Alloc([]byte("new")); n != want || e != api.OK {
				t.Errorf("after the release of %v, Alloc %d = %d, %d; want %d", x.released, i, n, e, want)
			}
		}
	}
}

func TestAllocAfterAReleaseInBetween(t *testing.T) { // P15.2
	a := open(t, 5, "a", "b", "c", "d", "e")
	release(t, a, 4, true)
	release(t, a, 2, true)
	alloc(t, a, "f", 2)
	release(t, a, 1, true)
	alloc(t, a, "g", 1)
	alloc(t, a, "h", 4)
	release(t, a, 5, true)
	release(t, a, 3, true)
	alloc(t, a, "i", 3)
	alloc(t, a, "j", 5)
	check(t, a, []api.Page{page(1, 1, "g"), page(2, 1, "f"), page(3, 1, "i"), page(4, 1, "h"), page(5, 1, "j")})
}

func TestExampleOfTheChapter(t *testing.T) { // P15.2
	a := open(t, 3, "a", "b")
	release(t, a, 1, true)
	alloc(t, a, "c", 1)
	check(t, a, []api.Page{page(1, 1, "c"), page(2, 1, "b")})
}

func TestAllocOfEachSize(t *testing.T) { // P15.2
	a := open(t, mostPages)
	var want []api.Page
	for size := 0; size <= mostBytes; size++ {
		text := strings.Repeat("k", size)
		alloc(t, a, text, size+1)
		want = append(want, page(size+1, 1, text))
	}
	check(t, a, want)
}

func TestAllocOfTooManyBytes(t *testing.T) { // P15.2
	for _, size := range []int{mostBytes + 1, mostBytes + 2, 2 * mostBytes, 1 << 16, 1<<16 + 1} {
		a := open(t, 2, "a")
		if n, e := a.Alloc(make([]byte, size)); n != 0 || e != api.ErrTooLarge {
			t.Errorf("Alloc(%d bytes) = %d, %d; want ErrTooLarge", size, n, e)
		}
		check(t, a, []api.Page{page(1, 1, "a")})
		alloc(t, a, "b", 2)
	}
}

func TestAllocInAFullArena(t *testing.T) { // P15.2
	for capacity := range 6 {
		a := open(t, capacity)
		var want []api.Page
		for i := range capacity {
			alloc(t, a, "a", i+1)
			hold(t, a, i+1)
			want = append(want, page(i+1, 2, "a"))
		}
		for _, data := range [][]byte{nil, {}, {1}, make([]byte, mostBytes)} {
			if n, e := a.Alloc(data); n != 0 || e != api.ErrFull {
				t.Errorf("Alloc(%d bytes) with %d of %d pages = %d, %d; want ErrFull", len(data), capacity, capacity, n, e)
			}
		}
		// A page that is too large is reported first.
		if n, e := a.Alloc(make([]byte, mostBytes+1)); n != 0 || e != api.ErrTooLarge {
			t.Errorf("Alloc of too much with %d of %d pages = %d, %d; want ErrTooLarge", capacity, capacity, n, e)
		}
		check(t, a, want)
	}
}

func TestReleaseMakesRoom(t *testing.T) { // P15.2, P15.3
	a := open(t, 2, "a", "b")
	hold(t, a, 2)
	release(t, a, 2, false)
	if n, e := a.Alloc(nil); n != 0 || e != api.ErrFull {
		t.Errorf("Alloc while page 2 is held = %d, %d; want ErrFull", n, e)
	}
	release(t, a, 2, true)
	alloc(t, a, "c", 2)
	if n, e := a.Alloc(nil); n != 0 || e != api.ErrFull {
		t.Errorf("Alloc with two pages again = %d, %d; want ErrFull", n, e)
	}
	check(t, a, []api.Page{page(1, 1, "a"), page(2, 1, "c")})
}

func TestArenaOfMostPages(t *testing.T) { // P15.1, P15.2
	a := open(t, mostPages)
	for i := range mostPages {
		alloc(t, a, "k", i+1)
	}
	if n, e := a.Alloc([]byte("k")); n != 0 || e != api.ErrFull {
		t.Errorf("Alloc after %d pages = %d, %d; want ErrFull", mostPages, n, e)
	}
	for n := mostPages; n > 0; n -= 2 {
		release(t, a, n, true)
	}
	if n := a.Live(); n != mostPages/2 {
		t.Errorf("Live() = %d; want %d", n, mostPages/2)
	}
	for n := 2; n <= mostPages; n += 2 {
		alloc(t, a, "new", n)
	}
	if l := a.Dump(); len(l) != mostPages || a.Live() != mostPages {
		t.Errorf("Live() = %d, Dump() has %d pages; want %d", a.Live(), len(l), mostPages)
	}
}

func TestHoldAndRelease(t *testing.T) { // P15.3
	a := open(t, 3, "a", "b", "c")
	for refs := 2; refs <= 300; refs++ {
		hold(t, a, 2)
		check(t, a, []api.Page{page(1, 1, "a"), page(2, refs, "b"), page(3, 1, "c")})
	}
	for refs := 299; refs > 0; refs-- {
		release(t, a, 2, false)
		check(t, a, []api.Page{page(1, 1, "a"), page(2, refs, "b"), page(3, 1, "c")})
	}
	release(t, a, 2, true)
	check(t, a, []api.Page{page(1, 1, "a"), page(3, 1, "c")})
}

func TestManyReferences(t *testing.T) { // P15.3
	a := open(t, 1, "a")
	const more = 1<<16 + 1
	for range more {
		hold(t, a, 1)
	}
	check(t, a, []api.Page{page(1, more+1, "a")})
	for range more {
		release(t, a, 1, false)
	}
	check(t, a, []api.Page{page(1, 1, "a")})
	release(t, a, 1, true)
	check(t, a, nil)
}

func TestANewPageHasOneReference(t *testing.T) { // P15.2, P15.3
	a := open(t, 1, "old")
	hold(t, a, 1)
	release(t, a, 1, false)
	release(t, a, 1, true)
	alloc(t, a, "new", 1)
	check(t, a, []api.Page{page(1, 1, "new")})
	release(t, a, 1, true)
	check(t, a, nil)
}

// checkUnknown checks that the arena has no page n and does not change.
func checkUnknown(t *testing.T, a *Arena, n int) {
	t.Helper()
	before := a.Dump()
	if e := a.Hold(n); e != api.ErrUnknown {
		t.Errorf("Hold(%d) = %d; want ErrUnknown", n, e)
	}
	if freed, e := a.Release(n); freed || e != api.ErrUnknown {
		t.Errorf("Release(%d) = %v, %d; want ErrUnknown", n, freed, e)
	}
	if b, e := a.Data(n); len(b) != 0 || e != api.ErrUnknown {
		t.Errorf("Data(%d) = %q, %d; want ErrUnknown", n, b, e)
	}
	check(t, a, before)
}

func TestUnknownPages(t *testing.T) { // P15.3
	wrong := []int{
		math.MinInt, math.MinInt + 1, -1 << 32, 2 - 1<<32, -3, -2, -1, 0,
		4, 5, mostPages, mostPages + 1, 1<<16 + 2, 1 << 32, 1<<32 + 2, math.MaxInt - 1, math.MaxInt,
	}
	for _, n := range append([]int{1, 2, 3}, wrong...) {
		checkUnknown(t, open(t, 3), n)
		checkUnknown(t, open(t, 0), n)
	}
	a := open(t, 3, "a", "b", "c")
	for _, n := range wrong {
		checkUnknown(t, a, n)
	}
	release(t, a, 2, true)
	checkUnknown(t, a, 2)
	release(t, a, 3, true)
	checkUnknown(t, a, 3)
	// None of the unknown numbers has become a page, or one to be taken next.
	alloc(t, a, "d", 2)
	alloc(t, a, "e", 3)
	check(t, a, []api.Page{page(1, 1, "a"), page(2, 1, "d"), page(3, 1, "e")})
}

func TestDumpIsAscending(t *testing.T) { // P15.4
	a := open(t, 100)
	var want []api.Page
	for i := range 100 {
		alloc(t, a, strings.Repeat("k", i), i+1)
		for range i % 5 {
			hold(t, a, i+1)
		}
		want = append(want, page(i+1, 1+i%5, strings.Repeat("k", i)))
	}
	for range 20 {
		check(t, a, want)
	}
	// Pages that were stored late have their places by number.
	for _, n := range []int{60, 20, 90, 10} {
		for range want[n-1].Refs - 1 {
			release(t, a, n, false)
		}
		release(t, a, n, true)
	}
	for _, n := range []int{10, 20, 60} {
		alloc(t, a, "late", n)
		want[n-1] = page(n, 1, "late")
	}
	want = slices.Delete(want, 89, 90)
	for range 20 {
		check(t, a, want)
	}
}

// byHand is an arena as a list of pages in the order of their numbers.
type byHand struct {
	capacity int
	l        []api.Page
}

func (h *byHand) find(n int) int {
	return slices.IndexFunc(h.l, func(p api.Page) bool { return p.Number == n })
}

func (h *byHand) alloc(data []byte) (int, api.Errno) {
	if len(data) > mostBytes {
		return 0, api.ErrTooLarge
	}
	if len(h.l) >= h.capacity {
		return 0, api.ErrFull
	}
	n := 1
	for h.find(n) >= 0 {
		n++
	}
	h.l = slices.Insert(h.l, n-1, page(n, 1, string(data)))
	return n, api.OK
}

func (h *byHand) release(n int) (bool, api.Errno) {
	i := h.find(n)
	if i < 0 {
		return false, api.ErrUnknown
	}
	h.l[i].Refs--
	if h.l[i].Refs > 0 {
		return false, api.OK
	}
	h.l = slices.Delete(h.l, i, i+1)
	return true, api.OK
}

func (h *byHand) hold(n int) api.Errno {
	i := h.find(n)
	if i < 0 {
		return api.ErrUnknown
	}
	h.l[i].Refs++
	return api.OK
}

func TestManyCallsComparedWithAList(t *testing.T) { // P15.1 to P15.4
	for seed := uint32(1); seed <= 60; seed++ {
		x := seed
		draw := func(n int) int {
			x = x*1664525 + 1013904223
			return int(x>>16) % n
		}
		h := &byHand{capacity: draw(10)}
		a := open(t, h.capacity)
		for range 400 {
			switch n := draw(13) - 1; draw(5) {
			case 0, 1:
				data := bytes.Repeat([]byte{byte(draw(256))}, draw(7))
				if draw(20) == 0 {
					data = make([]byte, mostBytes+draw(2))
				}
				got, e := a.Alloc(data)
				if want, f := h.alloc(data); got != want || e != f {
					t.Fatalf("Alloc(%d bytes) = %d, %d; want %d, %d", len(data), got, e, want, f)
				}
			case 2, 3:
				freed, e := a.Release(n)
				if want, f := h.release(n); freed != want || e != f {
					t.Fatalf("Release(%d) = %v, %d; want %v, %d", n, freed, e, want, f)
				}
			case 4:
				if e, f := a.Hold(n), h.hold(n); e != f {
					t.Fatalf("Hold(%d) = %d; want %d", n, e, f)
				}
			}
			check(t, a, h.l)
		}
	}
}

func TestAllocKeepsNoMemoryOfItsArgument(t *testing.T) { // R2
	a := open(t, 2)
	data := append(make([]byte, 0, 9), "abc"...)
	copy(data[3:9], "spare!")
	before := slices.Clone(data[:9])
	for want := 1; want <= 2; want++ {
		if n, e := a.Alloc(data); n != want || e != api.OK {
			t.Fatalf("Alloc = %d, %d; want %d", n, e, want)
		}
	}
	if !bytes.Equal(data[:9], before) {
		t.Errorf("Alloc changed its argument to %q", data[:9])
	}
	clear(data[:9])
	check(t, a, []api.Page{page(1, 1, "abc"), page(2, 1, "abc")})
}

func TestDataSharesNoMemory(t *testing.T) { // R2
	a := open(t, 2, "abc", "def")
	first, _ := a.Data(1)
	second, _ := a.Data(1)
	clear(append(first, 1, 2, 3))
	clear(first[:cap(first)])
	if string(second) != "abc" {
		t.Errorf("a change of the result of Data shows in another one: %q", second)
	}
	check(t, a, []api.Page{page(1, 1, "abc"), page(2, 1, "def")})
	// Bytes that were read stay when their page is gone.
	release(t, a, 1, true)
	alloc(t, a, "new", 1)
	if string(second) != "abc" {
		t.Errorf("a change of the arena shows in the result of Data: %q", second)
	}
}

func TestDumpSharesNoMemory(t *testing.T) { // R2
	a := open(t, 3, "abc", "def", "ghi")
	want := []api.Page{page(1, 1, "abc"), page(2, 1, "def"), page(3, 1, "ghi")}
	first, second := a.Dump(), a.Dump()
	data, _ := a.Data(2)
	for i := range first {
		clear(append(first[i].Data, 1, 2, 3))
		clear(first[i].Data[:cap(first[i].Data)])
		for _, later := range first[i+1:] {
			if !bytes.Equal(later.Data, want[later.Number-1].Data) {
				t.Errorf("a change of page %d of a dump shows in page %d", i+1, later.Number)
			}
		}
		first[i].Number, first[i].Refs = 7, 7
	}
	clear(first[:cap(first)])
	if !samePages(second, want) || string(data) != "def" {
		t.Errorf("a change of a dump shows in other results: %v, %q", second, data)
	}
	check(t, a, want)
	hold(t, a, 1)
	release(t, a, 2, true)
	alloc(t, a, "new", 2)
	if !samePages(second, want) {
		t.Errorf("a change of the arena shows in a dump: %v", second)
	}
}

func TestReadingChangesNothing(t *testing.T) { // R3, R5
	a := open(t, 3, "a", "b")
	for n := -1; n < 5; n++ {
		a.Data(n)
		a.Live()
		a.Dump()
	}
	check(t, a, []api.Page{page(1, 1, "a"), page(2, 1, "b")})
	alloc(t, a, "c", 3)
	check(t, a, []api.Page{page(1, 1, "a"), page(2, 1, "b"), page(3, 1, "c")})
}
