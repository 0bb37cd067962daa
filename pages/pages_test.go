package pages

import (
	"bytes"
	"math"
	"math/big"
	"slices"
	"strings"
	"testing"

	"sketchstore/api"
)

// The limit of the chapter, written once more so that a wrong one shows.
const mostSize = 1024

// badSizes are sizes on the wrong side of a limit, and some that would be good
// ones as words of 8, 16 or 32 bits.
func badSizes() []int {
	return []int{
		math.MinInt, math.MinInt + 1, math.MinInt + 8, -1 << 32, 1 - 1<<32, -1024, -8, -2, -1, 0,
		mostSize + 1, mostSize + 2, 1<<16 + 8, 1 << 32, 1<<32 + 8, math.MaxInt - 1, math.MaxInt,
	}
}

// someBytes returns n bytes of a fixed sequence in which no two near parts are
// equal, with spare capacity.
func someBytes(n int) []byte {
	b := make([]byte, n, n+9)
	x := uint32(n) + 1
	for i := range b[:n+9] {
		x = x*1664525 + 1013904223
		b[:n+9][i] = byte(x >> 24)
	}
	return b
}

// samePages compares two lists of pages; a nil page and an empty one are equal.
func samePages(a, b [][]byte) bool {
	return slices.EqualFunc(a, b, bytes.Equal)
}

// list returns pages written as words.
func list(words ...string) [][]byte {
	l := make([][]byte, len(words))
	for i, w := range words {
		l[i] = []byte(w)
	}
	return l
}

// copyOf returns a copy of pages that shares no memory with them.
func copyOf(l [][]byte) [][]byte {
	c := make([][]byte, len(l))
	for i, page := range l {
		c[i] = append([]byte{}, page...)
	}
	return c
}

func TestCount(t *testing.T) { // P14.1
	for _, x := range []struct{ n, size, want int }{
		{0, 1, 0},
		{0, 8, 0},
		{0, 1024, 0},
		{1, 1, 1},
		{1, 2, 1},
		{1, 1024, 1},
		{2, 1, 2},
		{2, 2, 1},
		{3, 2, 2},
		{4, 2, 2},
		{5, 2, 3},
		{7, 8, 1},
		{8, 8, 1},
		{9, 8, 2},
		{1023, 1024, 1},
		{1024, 1024, 1},
		{1025, 1024, 2},
		{2048, 1024, 2},
		{65536, 1024, 64},
		{65537, 1024, 65},
		{65536, 1, 65536},
		{1 << 62, 1, 1 << 62},
		{1 << 62, 1024, 1 << 52},
		{1<<62 + 1, 1024, 1<<52 + 1},
		{math.MaxInt, 1, math.MaxInt},
		{math.MaxInt, 2, 1 << 62},
		{math.MaxInt - 1, 2, 1<<62 - 1},
		{math.MaxInt, 3, 3074457345618258603},
		{math.MaxInt, 1024, 1 << 53},
		{math.MaxInt - 1023, 1024, 1<<53 - 1},
		{math.MaxInt - 1022, 1024, 1 << 53},
	} {
		if n, e := Count(x.n, x.size); n != x.want || e != api.OK {
			t.Errorf("Count(%d, %d) = %d, %d; want %d", x.n, x.size, n, e, x.want)
		}
	}
}

func TestCountOfEachSize(t *testing.T) { // P14.1
	for size := 1; size <= mostSize; size++ {
		numbers := []int{0, 1, 2, 1 << 31, 1<<53 + 1, math.MaxInt - 1, math.MaxInt}
		for _, k := range []int{1, 2, 3, 64, 1 << 40, math.MaxInt / size} {
			// k is at most MaxInt / size.
			numbers = append(numbers, k*size-1, k*size)
			if k < math.MaxInt/size {
				numbers = append(numbers, k*size+1)
			}
		}
		for _, n := range numbers {
			// Div rounds down, so that it rounds the opposite of the count.
			want := big.NewInt(-int64(n))
			want.Div(want, big.NewInt(int64(size)))
			want.Neg(want)
			if count, e := Count(n, size); !want.IsInt64() || int64(count) != want.Int64() || e != api.OK {
				t.Fatalf("Count(%d, %d) = %d, %d; want %s", n, size, count, e, want)
			}
		}
	}
}

func TestCountOfInvalidArguments(t *testing.T) { // P14.1
	numbers := []int{math.MinInt, math.MinInt + 1, -1 << 32, -1025, -1024, -1023, -2, -1, 0, 1, 8, 1024, 1 << 32, math.MaxInt}
	for _, size := range badSizes() {
		for _, n := range numbers {
			if count, e := Count(n, size); count != 0 || e != api.ErrRange {
				t.Errorf("Count(%d, %d) = %d, %d; want ErrRange", n, size, count, e)
			}
		}
	}
	for size := 1; size <= mostSize; size++ {
		for _, n := range numbers {
			if n >= 0 {
				continue
			}
			if count, e := Count(n, size); count != 0 || e != api.ErrRange {
				t.Errorf("Count(%d, %d) = %d, %d; want ErrRange", n, size, count, e)
			}
		}
	}
}

func TestSplit(t *testing.T) { // P14.1
	for _, x := range []struct {
		text string
		size int
		want [][]byte
	}{
		{"", 1, nil},
		{"", 2, nil},
		{"", 1024, nil},
		{"a", 1, list("a")},
		{"a", 2, list("a")},
		{"a", 1024, list("a")},
		{"ab", 1, list("a", "b")},
		{"ab", 2, list("ab")},
		{"ab", 3, list("ab")},
		{"abc", 2, list("ab", "c")},
		{"abcd", 2, list("ab", "cd")},
		{"abcde", 1, list("a", "b", "c", "d", "e")},
		{"abcde", 2, list("ab", "cd", "e")},
		{"abcde", 3, list("abc", "de")},
		{"abcde", 4, list("abcd", "e")},
		{"abcde", 5, list("abcde")},
		{"abcde", 6, list("abcde")},
		{"\x00\x00\x00", 2, list("\x00\x00", "\x00")},
		{"ééé", 3, list("é\xc3", "\xa9é")},
		{strings.Repeat("k", 1024), 1024, list(strings.Repeat("k", 1024))},
		{strings.Repeat("k", 1025), 1024, list(strings.Repeat("k", 1024), "k")},
		{strings.Repeat("k", 1023), 1024, list(strings.Repeat("k", 1023))},
	} {
		if l, e := Split([]byte(x.text), x.size); !samePages(l, x.want) || e != api.OK {
			t.Errorf("Split(%q, %d) = %q, %d; want %q", x.text, x.size, l, e, x.want)
		}
	}
}

// splitByHand is the Split of P14.1, byte by byte.
func splitByHand(b []byte, size int) [][]byte {
	var l [][]byte
	for _, c := range b {
		if len(l) == 0 || len(l[len(l)-1]) == size {
			l = append(l, nil)
		}
		l[len(l)-1] = append(l[len(l)-1], c)
	}
	return l
}

func checkSplit(t *testing.T, b []byte, size int) {
	t.Helper()
	l, e := Split(b, size)
	if e != api.OK || !samePages(l, splitByHand(b, size)) {
		t.Fatalf("Split(%d bytes, %d) gives %d wrong pages, %d", len(b), size, len(l), e)
	}
	if count, e := Count(len(b), size); count != len(l) || e != api.OK {
		t.Errorf("Count(%d, %d) = %d, %d, but Split gives %d pages", len(b), size, count, e, len(l))
	}
	if again := Join(l); !bytes.Equal(again, b) {
		t.Errorf("Join(Split(%d bytes, %d)) is not these bytes", len(b), size)
	}
}

func TestSplitIntoPagesOfEachSize(t *testing.T) { // P14.1, P14.2
	for size := 1; size <= mostSize; size++ {
		for _, n := range []int{0, 1, size - 1, size, size + 1, 2*size - 1, 2 * size, 2*size + 1, 3 * size, 1500} {
			checkSplit(t, someBytes(n), size)
		}
	}
}

func TestSplitOfEachShortLength(t *testing.T) { // P14.1, P14.2
	for n := range 70 {
		for size := 1; size <= n+2; size++ {
			checkSplit(t, someBytes(n), size)
		}
	}
}

func TestSplitOfLongLists(t *testing.T) { // P14.1, P14.2
	for _, x := range []struct{ n, size int }{
		{65536, 1},
		{65536, 8},
		{65536, 1024},
		{65537, 1023},
		// Above 2^24 not every number is exact as a float of 32 bits.
		{1<<24 + 5*1023, 1023},
		{1<<24 + 5*1023 + 1, 1023},
	} {
		checkSplit(t, someBytes(x.n), x.size)
	}
}

func TestSplitWithInvalidSizes(t *testing.T) { // P14.1
	for _, size := range badSizes() {
		for _, b := range [][]byte{nil, {}, {1}, []byte("abcde"), someBytes(3000)} {
			if l, e := Split(b, size); len(l) != 0 || e != api.ErrRange {
				t.Errorf("Split(%d bytes, %d) = %d pages, %d; want ErrRange", len(b), size, len(l), e)
			}
		}
	}
}

func TestJoin(t *testing.T) { // P14.2
	long := strings.Repeat("k", 3000)
	for _, x := range []struct {
		l    [][]byte
		want string
	}{
		{nil, ""},
		{[][]byte{}, ""},
		{[][]byte{nil}, ""},
		{list(""), ""},
		{[][]byte{nil, {}, nil}, ""},
		{list("a"), "a"},
		{list("abc"), "abc"},
		{list("ab", "cd", "e"), "abcde"},
		{list("e", "cd", "ab"), "ecdab"},
		{list("a", "bcd", "ef"), "abcdef"},
		{list("", "a", "", "b", ""), "ab"},
		{[][]byte{nil, {'a'}, nil, {'b'}, nil}, "ab"},
		{list("a", "a", "a"), "aaa"},
		{list("\x00", "\x00\xff", "\x00"), "\x00\x00\xff\x00"},
		{list("\xc3", "\xa9"), "é"},
		{list(long, "a", long), long + "a" + long},
	} {
		if b := Join(x.l); string(b) != x.want {
			t.Errorf("Join(%q) = %q; want %q", x.l, b, x.want)
		}
	}
}

func TestJoinOfManyPages(t *testing.T) { // P14.2
	var l [][]byte
	var want []byte
	for i := range 2000 {
		page := someBytes(i * 7 % 13)
		l = append(l, page)
		want = append(want, page...)
	}
	if b := Join(l); !bytes.Equal(b, want) {
		t.Errorf("Join of 2000 pages has %d bytes, or wrong ones; want %d", len(b), len(want))
	}
}

func TestShared(t *testing.T) { // P14.3
	page := strings.Repeat("k", 1024)
	for _, x := range []struct {
		old, now [][]byte
		want     []bool
	}{
		{nil, nil, nil},
		{list("a"), nil, nil},
		{list("a", "b"), [][]byte{}, nil},
		{nil, list("a"), []bool{false}},
		{[][]byte{}, list("a", "b"), []bool{false, false}},
		{list("a"), list("a"), []bool{true}},
		{list("a"), list("b"), []bool{false}},
		{list("a", "b", "c"), list("a", "c", "c", "d"), []bool{true, false, true, false}},
		{list("a", "c", "c", "d"), list("a", "b", "c"), []bool{true, false, true}},
		{list("a", "b"), list("b", "a"), []bool{false, false}},
		{list("a", "b"), list("b"), []bool{false}},
		{list("a"), list("b", "a"), []bool{false, false}},
		{list("a"), list("a", "a"), []bool{true, false}},
		{list("a", "a"), list("a"), []bool{true}},
		{list("a", "b", "c"), list("x", "b", "c"), []bool{false, true, true}},
		{list("a", "b", "c"), list("a", "b", "x"), []bool{true, true, false}},
		// A page is not the same as its beginning, its end or a longer one.
		{list("ab"), list("a"), []bool{false}},
		{list("ab"), list("b"), []bool{false}},
		{list("a"), list("ab"), []bool{false}},
		{list("a"), list("a\x00"), []bool{false}},
		{list("a\x00"), list("a"), []bool{false}},
		{list("ab"), list("ba"), []bool{false}},
		{list("a"), list("A"), []bool{false}},
		{list("\x7f"), list("\xff"), []bool{false}},
		// The same bytes in other pages are not the same pages.
		{list("ab", "c"), list("a", "bc"), []bool{false, false}},
		// An empty page is a page.
		{list(""), list(""), []bool{true}},
		{[][]byte{nil}, list(""), []bool{true}},
		{list(""), [][]byte{nil}, []bool{true}},
		{[][]byte{nil}, [][]byte{nil}, []bool{true}},
		{nil, list(""), []bool{false}},
		{nil, [][]byte{nil, nil}, []bool{false, false}},
		{list("a"), list("a", ""), []bool{true, false}},
		{list("a"), list(""), []bool{false}},
		{list(""), list("a"), []bool{false}},
		{list(page, page), list(page, page[1:]+"l"), []bool{true, false}},
		{list(page), list("l" + page[1:]), []bool{false}},
		{list(page + page), list(page + page), []bool{true}},
	} {
		if shared := Shared(x.old, x.now); !slices.Equal(shared, x.want) {
			t.Errorf("Shared(%q, %q) = %v; want %v", x.old, x.now, shared, x.want)
		}
	}
}

func TestSharedWithOneChange(t *testing.T) { // P14.3
	b := someBytes(101)
	for size := 1; size <= 102; size++ {
		old, _ := Split(b, size)
		for at := range b {
			changed := slices.Clone(b)
			changed[at] ^= 1 << (at % 8)
			now, _ := Split(changed, size)
			for i, same := range Shared(old, now) {
				if want := i != at/size; same != want {
					t.Fatalf("after a change of byte %d, page %d of size %d: %v; want %v", at, i, size, same, want)
				}
			}
		}
	}
}

func TestSharedWithAnotherLength(t *testing.T) { // P14.3
	b := someBytes(40)
	for size := 1; size <= 41; size++ {
		for n := range b {
			short, _ := Split(b[:n], size)
			whole, _ := Split(b, size)
			grown, shrunk := make([]bool, len(whole)), make([]bool, len(short))
			// The full pages of the shorter list are pages of the longer one.
			for i := range n / size {
				grown[i], shrunk[i] = true, true
			}
			if shared := Shared(short, whole); !slices.Equal(shared, grown) {
				t.Errorf("from %d to 40 bytes with size %d: %v; want %v", n, size, shared, grown)
			}
			if shared := Shared(whole, short); !slices.Equal(shared, shrunk) {
				t.Errorf("from 40 to %d bytes with size %d: %v; want %v", n, size, shared, shrunk)
			}
		}
	}
}

func TestSplitSharesNoMemory(t *testing.T) { // R2
	for _, n := range []int{1, 5, 6, 100} {
		for _, size := range []int{1, 2, 3, 1024} {
			b := someBytes(n)
			before := slices.Clone(b[:cap(b)])
			l, _ := Split(b, size)
			want := copyOf(l)
			for i := range l {
				// An appended byte must not show in the next page either.
				clear(append(l[i], 1, 2, 3))
				clear(l[i][:cap(l[i])])
				clear(want[i])
				if !samePages(l, want) {
					t.Fatalf("a change of page %d of %d bytes, size %d, shows in another one", i, n, size)
				}
			}
			if !bytes.Equal(b[:cap(b)], before) {
				t.Errorf("Split changed its argument, or a page shares memory with it")
			}
			again, _ := Split(b, size)
			want = copyOf(again)
			clear(b[:cap(b)])
			if !samePages(again, want) || !samePages(want, splitByHand(before[:n], size)) {
				t.Errorf("the pages of %d bytes, size %d, change with the argument", n, size)
			}
		}
	}
}

func TestJoinSharesNoMemory(t *testing.T) { // R2
	for _, words := range [][]string{{"abc"}, {"abc", "de"}, {"", "abc"}, {"abc", ""}} {
		l := make([][]byte, 0, 5)
		for _, w := range words {
			page := append(make([]byte, 0, 9), w...)
			copy(page[len(page):9], "spare")
			l = append(l, page)
		}
		l[:5][4] = []byte("spare")
		before := make([][]byte, len(l))
		for i, page := range l {
			before[i] = slices.Clone(page[:cap(page)])
		}
		b := Join(l)
		clear(append(b, 1, 2, 3))
		clear(b[:cap(b)])
		for i, page := range l {
			if !bytes.Equal(page[:cap(page)], before[i]) {
				t.Errorf("Join(%q) changed its argument, or shares memory with it", words)
			}
		}
		if string(l[:5][4]) != "spare" {
			t.Errorf("Join(%q) changed the spare capacity of its argument", words)
		}
		b = Join(l)
		for _, page := range l {
			clear(page[:cap(page)])
		}
		if string(b) != strings.Join(words, "") {
			t.Errorf("Join(%q) is %q after a change of the argument", words, b)
		}
	}
}

func TestSharedChangesNothing(t *testing.T) { // R2
	old, now := list("a", "bc", "", "d", "e")[:4], list("a", "b", "", "x", "y", "z")[:5]
	oldBefore, nowBefore := copyOf(old[:5]), copyOf(now[:6])
	first := Shared(old, now)
	if want := []bool{true, false, true, false, false}; !slices.Equal(first, want) {
		t.Errorf("Shared(%q, %q) = %v; want %v", old, now, first, want)
	}
	for i := range first {
		first[i] = !first[i]
	}
	if second := Shared(old, now); !slices.Equal(second, []bool{true, false, true, false, false}) {
		t.Errorf("Shared = %v after a change of an earlier result", second)
	}
	if !samePages(old[:5], oldBefore) || !samePages(now[:6], nowBefore) {
		t.Errorf("Shared changed its arguments to %q, %q", old[:5], now[:6])
	}
}
