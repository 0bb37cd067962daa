package ranks

import (
	"bytes"
	"encoding/binary"
	"math"
	"slices"
	"strconv"
	"strings"
	"testing"

	"sketchstore/api"
	"sketchstore/mixer"
)

// The limits of the chapter, written once more so that wrong ones show.
const (
	mostSize   = 32
	mostLevels = 41
	mostTotal  = 1 << 40
	mostOf     = 4294967295 // of a weight
	mostAt     = 1 << 30
)

// edges are the numbers at which a limit or a sum could go wrong.
func edges() []int {
	return []int{
		math.MinInt, math.MinInt + 1, -1 << 61, -mostTotal, -1 << 32, -34, -33, -32, -4, -3, -2, -1,
		0, 1, 2, 3, 4, 5, 30, 31, 32, 33, 34, 64, 247, 248, 249, 255, 256, 257, 258,
		mostAt - 1, mostAt, mostAt + 1, 1 << 31, mostOf - 1, mostOf, mostOf + 1, 1<<32 + 2,
		mostTotal - 1, mostTotal, mostTotal + 1, 1 << 61, 1 << 62, math.MaxInt - 1, math.MaxInt,
	}
}

func same(r, s api.Ranks) bool {
	return r.Size == s.Size && r.Total == s.Total && r.Slack == s.Slack && r.Saturated == s.Saturated &&
		slices.EqualFunc(r.Levels, s.Levels, slices.Equal[[]string])
}

func isZero(r api.Ranks) bool {
	return same(r, api.Ranks{})
}

// level lists keys of one byte.
func level(keys string) []string {
	var l []string
	for i := range len(keys) {
		l = append(l, keys[i:i+1])
	}
	return l
}

// of returns a summary with keys of one byte.
func of(size, total, slack int, levels ...string) api.Ranks {
	r := api.Ranks{Size: size, Total: total, Slack: slack}
	for _, keys := range levels {
		r.Levels = append(r.Levels, level(keys))
	}
	return r
}

// single returns a summary with one level of any keys.
func single(size, total int, keys ...string) api.Ranks {
	return api.Ranks{Size: size, Total: total, Levels: [][]string{keys}}
}

func saturated(r api.Ranks) api.Ranks {
	r.Saturated = true
	return r
}

// binaryOf returns the valid summary with the key on the levels of the bits of
// total.
func binaryOf(size, total, slack int, key string) api.Ranks {
	r := api.Ranks{Size: size, Total: total, Slack: slack}
	for ; total > 0; total /= 2 {
		r.Levels = append(r.Levels, slices.Repeat([]string{key}, total%2))
	}
	return r
}

// coinAt is coins.Bit.
func coinAt(flips []byte, i int) int {
	if i/8 < len(flips) && flips[i/8]&(128>>(i%8)) != 0 {
		return 1
	}
	return 0
}

// settled is P11.2.
func settled(r api.Ranks, flips []byte, at int) (api.Ranks, int) {
	for i := 0; i < len(r.Levels); i++ {
		keys := slices.Sorted(slices.Values(r.Levels[i]))
		if n := len(keys); n >= r.Size {
			others := keys[:n-n%2]
			keys = keys[n-n%2:]
			if i == len(r.Levels)-1 {
				r.Levels = append(r.Levels, nil)
			}
			for place, key := range others {
				if place%2 == coinAt(flips, at) {
					r.Levels[i+1] = append(slices.Clone(r.Levels[i+1]), key)
				}
			}
			at++
			r.Slack = min(r.Slack+1<<i, mostTotal)
		}
		r.Levels[i] = keys
	}
	for len(r.Levels) > 0 && len(r.Levels[len(r.Levels)-1]) == 0 {
		r.Levels = r.Levels[:len(r.Levels)-1]
	}
	return r, at
}

// inserted is P11.3 for valid arguments.
func inserted(r api.Ranks, x api.Item, flips []byte, at int) (api.Ranks, int) {
	if r.Total+x.Weight > mostTotal {
		return saturated(r), at
	}
	r.Total += x.Weight
	r.Levels = slices.Clone(r.Levels)
	for i := range 40 {
		if x.Weight>>i == 0 {
			break
		}
		if i == len(r.Levels) {
			r.Levels = append(r.Levels, nil)
		}
		if x.Weight>>i%2 == 1 {
			r.Levels[i] = append(slices.Clone(r.Levels[i]), x.Key)
		}
	}
	return settled(r, flips, at)
}

// merged is P11.4 for valid arguments.
func merged(a, b api.Ranks, flips []byte, at int) (api.Ranks, int) {
	if a.Total+b.Total > mostTotal {
		return saturated(a), at
	}
	r := api.Ranks{
		Size: a.Size, Total: a.Total + b.Total, Slack: min(a.Slack+b.Slack, mostTotal),
		Saturated: a.Saturated || b.Saturated,
	}
	for i := range max(len(a.Levels), len(b.Levels)) {
		r.Levels = append(r.Levels, nil)
		for _, l := range [][][]string{b.Levels, a.Levels} {
			if i < len(l) {
				r.Levels[i] = slices.Concat(r.Levels[i], l[i])
			}
		}
	}
	return settled(r, flips, at)
}

// rankOf is Rank of P11.5 for valid arguments.
func rankOf(r api.Ranks, key string) int {
	n := 0
	for i, keys := range r.Levels {
		for _, x := range keys {
			if x <= key {
				n += 1 << i
			}
		}
	}
	return n
}

// quantileOf is Quantile of P11.5 for valid arguments.
func quantileOf(r api.Ranks, num, den int) string {
	least := ""
	for _, keys := range r.Levels {
		for _, x := range keys {
			n := rankOf(r, x)
			// The rank is multiplied by den, so that nothing is rounded.
			if n >= 1 && n*den >= num*r.Total && (least == "" || x < least) {
				least = x
			}
		}
	}
	return least
}

// codeOf is wire.EncodeUint of a number that is not negative.
func codeOf(n int) []byte {
	if n < 248 {
		return []byte{byte(n)}
	}
	digits := bytes.TrimLeft(binary.BigEndian.AppendUint64(nil, uint64(n)), "\x00")
	return append([]byte{byte(247 + len(digits))}, digits...)
}

// head returns the encodings of numbers.
func head(numbers ...int) []byte {
	var b []byte
	for _, n := range numbers {
		b = append(b, codeOf(n)...)
	}
	return b
}

// withLevels appends the encodings of levels.
func withLevels(b []byte, levels ...[]string) []byte {
	for _, keys := range levels {
		b = append(b, codeOf(len(keys))...)
		for _, key := range keys {
			b = slices.Concat(b, codeOf(len(key)), []byte(key))
		}
	}
	return b
}

// joined is the encoding of a valid summary.
func joined(r api.Ranks) []byte {
	flag := 0
	if r.Saturated {
		flag = 1
	}
	return withLevels(head(r.Size, r.Total, r.Slack, flag, len(r.Levels)), r.Levels...)
}

// word returns a number of a fixed sequence.
func word(i int) int {
	return int(mixer.Mix(uint64(i)*12345+678) >> 1)
}

// keysOf returns n keys of all lengths and with all kinds of bytes.
func keysOf(n int) []string {
	l := []string{"m", "a", "aa", "B", "\x00", "\xff", "é", "a b", strings.Repeat("k", 32), strings.Repeat("\xff", 32)}
	for i := len(l); i < n; i++ {
		l = append(l, "k"+strconv.Itoa(i))
	}
	return l[:n]
}

// someCoins returns a list of eight bytes.
func someCoins(i int) []byte {
	return binary.BigEndian.AppendUint64(nil, uint64(word(i))<<1)
}

// filled returns a valid summary with the given number of levels, of different
// lengths, some of them empty and some of them as long as they can be.
func filled(size, levels, start int) api.Ranks {
	r := api.Ranks{Size: size, Slack: word(start) % (mostTotal + 1) >> (start % 41)}
	keys := keysOf(40)
	for i := range levels {
		n := word(start+i) >> 8 % (size + 2)
		n = min(n, size-1)
		if i == levels-1 {
			n = max(n, 1)
		}
		if i == mostLevels-1 {
			n = 1
			r.Levels = make([][]string, levels-1) // there is no room for others
		}
		var l []string
		for k := range n {
			l = append(l, keys[word(start+i*50+k)>>8%len(keys)])
		}
		slices.Sort(l)
		r.Levels = append(r.Levels, l)
	}
	for i, l := range r.Levels {
		r.Total += len(l) << i
	}
	if r.Total > mostTotal {
		return filled(size, levels-1, start)
	}
	return r
}

func TestNew(t *testing.T) {
	for _, size := range append(edges(), 6, 8, 10, 12, 14, 16, 18, 20, 22, 24, 26, 28, 7, 9, 17, 29) {
		r, e := New(size)
		if size >= 2 && size <= mostSize && size%2 == 0 {
			if !same(r, api.Ranks{Size: size}) || e != api.OK {
				t.Errorf("New(%d) = %v, %d", size, r, e)
			}
		} else if !isZero(r) || e != api.ErrRange {
			t.Errorf("New(%d) = %v, %d", size, r, e)
		}
	}
}

func TestValidateAccepts(t *testing.T) {
	long := strings.Repeat("\xff", 32)
	for _, r := range []api.Ranks{
		of(2, 0, 0),
		of(32, 0, mostTotal),
		of(2, 1, 0, "a"),
		of(4, 3, 9, "aaa"),
		of(4, 3, 9, "abb"),
		of(32, 31, 0, strings.Repeat("k", 31)),
		// Only the keys of one level are in order, and any level but the last
		// one may be empty.
		of(4, 7, 0, "xyz", "", "a"),
		of(2, 4, 0, "", "", "z"),
		of(4, 2+6, 0, "\x00\xff", "abz"),
		binaryOf(2, mostTotal, mostTotal, "z"),
		binaryOf(32, mostTotal-1, 0, long),
		{Size: 4, Total: 3, Levels: [][]string{{"\x00", "k", long}}},
		{Size: 2, Levels: [][]string{}},
		{Size: 2, Total: 2, Levels: [][]string{{}, {"k"}}},
	} {
		for _, r := range []api.Ranks{r, saturated(r)} {
			if e := Validate(r); e != api.OK {
				t.Errorf("Validate(%v) = %d", r, e)
			}
		}
	}
}

// fault is an invalid summary with its first error.
type fault struct {
	r api.Ranks
	e api.Errno
}

// withLevelCount appends empty levels up to n.
func withLevelCount(r api.Ranks, n int) api.Ranks {
	r.Levels = slices.Concat(r.Levels, make([][]string, n-len(r.Levels)))
	return r
}

// faults are summaries with one fault.
func faults() []fault {
	tooLong := strings.Repeat("k", 33)
	return []fault{
		{api.Ranks{}, api.ErrRange},
		{of(2, -1, 0), api.ErrRange},
		{of(2, mostTotal+1, 0), api.ErrRange},
		{of(2, 0, -1), api.ErrRange},
		{of(2, 0, mostTotal+1), api.ErrRange},
		{withLevelCount(of(2, 0, 0), 42), api.ErrTooLarge},
		{withLevelCount(of(2, 0, 0), 1000), api.ErrTooLarge},
		{of(2, 2, 0, "ab"), api.ErrTooLarge},
		{of(4, 4, 0, "abcd"), api.ErrTooLarge},
		{of(4, 8, 0, "", "abcd"), api.ErrTooLarge},
		{of(32, 32, 0, strings.Repeat("k", 32)), api.ErrTooLarge},
		{single(4, 1, ""), api.ErrKey},
		{single(4, 1, tooLong), api.ErrKey},
		{single(4, 2, "a", ""), api.ErrKey},
		{single(4, 2, "a", tooLong), api.ErrKey},
		{api.Ranks{Size: 2, Total: 2, Levels: [][]string{nil, {""}}}, api.ErrKey},
		{of(4, 2, 0, "ba"), api.ErrOrder},
		{of(4, 3, 0, "bca"), api.ErrOrder},
		{of(4, 3, 0, "acb"), api.ErrOrder},
		{of(4, 4, 0, "", "ba"), api.ErrOrder},
		{single(4, 2, "ab", "a"), api.ErrOrder},
		{single(4, 2, "\xff", "z"), api.ErrOrder},
		{of(2, 0, 0, ""), api.ErrShape},
		{of(2, 1, 0, "a", ""), api.ErrShape},
		{of(2, 1, 0, "a", "", ""), api.ErrShape},
		{withLevelCount(of(2, 0, 0), 41), api.ErrShape},
		{of(2, 1, 0), api.ErrState},
		{of(2, 0, 0, "a"), api.ErrState},
		{of(4, 1, 0, "ab"), api.ErrState},
		{of(4, 3, 0, "ab"), api.ErrState},
		{of(2, 1, 0, "", "a"), api.ErrState},
		{of(2, 3, 0, "", "a"), api.ErrState},
		{of(2, 2, 0, "", "", "a"), api.ErrState},
		{of(2, mostTotal, 0, "a"), api.ErrState},
		{of(2, 0, 0, append(slices.Repeat([]string{""}, 40), "z")...), api.ErrState},
		// Level 40 with two keys, and all levels as long as they can be.
		{of(4, mostTotal, 0, append(slices.Repeat([]string{""}, 40), "ab")...), api.ErrState},
		{of(32, mostTotal, 0, slices.Repeat([]string{strings.Repeat("k", 31)}, 41)...), api.ErrState},
	}
}

// faultPairs are summaries with two faults, the first one of which counts.
func faultPairs() []fault {
	return []fault{
		{withLevelCount(of(3, 0, 0), 42), api.ErrRange},
		{withLevelCount(of(2, -1, 0), 42), api.ErrRange},
		{binaryOf(2, 1<<41, 0, "a"), api.ErrRange},
		{of(0, 2, 0, "ba"), api.ErrRange},
		{of(2, 0, -1, ""), api.ErrRange},
		{withLevelCount(of(4, 0, 0, "ba"), 42), api.ErrTooLarge},
		{withLevelCount(single(4, 0, ""), 42), api.ErrTooLarge},
		// A level counts before its keys, and these one after another.
		{single(2, 2, "a", ""), api.ErrTooLarge},
		{single(2, 2, "", "a"), api.ErrTooLarge},
		{of(2, 2, 0, "ba"), api.ErrTooLarge},
		{single(4, 3, "b", "a", ""), api.ErrOrder},
		{single(4, 3, "a", "", "b"), api.ErrKey},
		{single(4, 3, "", "b", "a"), api.ErrKey},
		{single(4, 2, "z", strings.Repeat("k", 33)), api.ErrKey},
		// A level counts before the next one.
		{of(4, 10, 0, "ba", "abcd"), api.ErrOrder},
		{of(4, 8, 0, "abcd", "ba"), api.ErrTooLarge},
		{api.Ranks{Size: 4, Total: 9, Levels: [][]string{{""}, level("abcd")}}, api.ErrKey},
		{api.Ranks{Size: 4, Total: 4, Levels: [][]string{level("ba"), {""}}}, api.ErrOrder},
		{of(4, 2, 0, "ba", ""), api.ErrOrder},
		{of(4, 4, 0, "abcd", ""), api.ErrTooLarge},
		{single(4, 7, ""), api.ErrKey},
		{of(4, 7, 0, "ba"), api.ErrOrder},
		{of(4, 7, 0, "abcd"), api.ErrTooLarge},
		{of(4, 7, 0, "ab", ""), api.ErrShape},
	}
}

// badSummaries are invalid summaries of all kinds.
func badSummaries() []fault {
	return append(faults(), faultPairs()...)
}

func TestValidateRefuses(t *testing.T) {
	for _, x := range badSummaries() {
		for _, r := range []api.Ranks{x.r, saturated(x.r)} {
			if e := Validate(r); e != x.e {
				t.Errorf("Validate(%v) = %d, want %d", r, e, x.e)
			}
		}
	}
}

func TestValidateOfTheNumbers(t *testing.T) {
	check := func(r api.Ranks, good bool) {
		t.Helper()
		want := api.ErrRange
		if good {
			want = api.OK
		}
		if e := Validate(r); e != want {
			t.Errorf("Validate(%v) = %d, want %d", r, e, want)
		}
	}
	for _, n := range edges() {
		check(of(2, 0, n), n >= 0 && n <= mostTotal)
		check(binaryOf(2, n, 0, "k"), n >= 0 && n <= mostTotal)
		check(of(n, 1, 0, "k"), n >= 2 && n <= mostSize && n%2 == 0)
	}
}

func TestValidateOfTheNumberOfKeys(t *testing.T) {
	for size := 2; size <= mostSize; size += 2 {
		for n := 1; n <= 40; n++ {
			for at := range mostLevels - 6 {
				levels := append(slices.Repeat([]string{""}, at), strings.Repeat("k", n))
				want := api.OK
				if n >= size {
					want = api.ErrTooLarge
				}
				if e := Validate(of(size, n<<at, 0, levels...)); e != want {
					t.Errorf("Size %d, %d keys on level %d: %d, want %d", size, n, at, e, want)
				}
			}
		}
	}
}

// checkInsert compares an insertion with the wanted result and P11.3.
func checkInsert(t *testing.T, r api.Ranks, x api.Item, flips []byte, at int, want api.Ranks, wantNext int) {
	t.Helper()
	s, next, e := Insert(r, x, flips, at)
	if !same(s, want) || next != wantNext || e != api.OK {
		t.Errorf("Insert(%v, %v, %v, %d) = %v, %d, %d; want %v, %d", r, x, flips, at, s, next, e, want, wantNext)
	}
	if other, n := inserted(r, x, flips, at); !same(other, want) || n != wantNext {
		t.Errorf("the second computation of Insert(%v, %v, %v, %d) is %v, %d", r, x, flips, at, other, n)
	}
	if e := Validate(s); e != api.OK {
		t.Errorf("Validate(%v) = %d", s, e)
	}
}

// checkMerge compares a merge with the wanted result and P11.4.
func checkMerge(t *testing.T, a, b api.Ranks, flips []byte, at int, want api.Ranks, wantNext int) {
	t.Helper()
	s, next, e := Merge(a, b, flips, at)
	if !same(s, want) || next != wantNext || e != api.OK {
		t.Errorf("Merge(%v, %v, %v, %d) = %v, %d, %d; want %v, %d", a, b, flips, at, s, next, e, want, wantNext)
	}
	if other, n := merged(a, b, flips, at); !same(other, want) || n != wantNext {
		t.Errorf("the second computation of Merge(%v, %v, %v, %d) is %v, %d", a, b, flips, at, other, n)
	}
	if e := Validate(s); e != api.OK {
		t.Errorf("Validate(%v) = %d", s, e)
	}
}

func TestInsert(t *testing.T) {
	for _, x := range []struct {
		r     api.Ranks
		key   string
		n     int
		flips []byte
		at    int
		want  api.Ranks
		next  int
	}{
		// Without a coin.
		{of(2, 0, 0), "a", 1, nil, 0, of(2, 1, 0, "a"), 0},
		{of(2, 0, 5), "a", 2, []byte{255}, 3, of(2, 2, 5, "", "a"), 3},
		{of(2, 0, 0), "k", 5, nil, 7, of(2, 5, 0, "k", "", "k"), 7},
		{of(2, 4, 9, "", "", "a"), "k", 3, nil, mostAt, of(2, 7, 9, "k", "k", "a"), mostAt},
		{of(4, 2, 0, "bd"), "a", 1, nil, 0, of(4, 3, 0, "abd"), 0},
		{of(4, 2, 0, "bd"), "c", 1, nil, 0, of(4, 3, 0, "bcd"), 0},
		{of(4, 2, 0, "bd"), "b", 1, nil, 0, of(4, 3, 0, "bbd"), 0},
		{of(4, 2, 0, "bd"), "z", 1, nil, 0, of(4, 3, 0, "bdz"), 0},
		{of(4, 2, 0, "", "m"), "e", 2, nil, 0, of(4, 4, 0, "", "em"), 0},
		// Example 1 of the chapter, in both orders and with both coins.
		{of(2, 1, 0, "a"), "b", 1, nil, 0, of(2, 2, 1, "", "a"), 1},
		{of(2, 1, 0, "b"), "a", 1, nil, 0, of(2, 2, 1, "", "a"), 1},
		{of(2, 1, 0, "a"), "b", 1, []byte{0x80}, 0, of(2, 2, 1, "", "b"), 1},
		{of(2, 1, 0, "b"), "a", 1, []byte{0x80}, 0, of(2, 2, 1, "", "b"), 1},
		// The coin at the position counts; those after the last one are 0.
		{of(2, 1, 0, "a"), "b", 1, []byte{0x7f}, 0, of(2, 2, 1, "", "a"), 1},
		{of(2, 1, 0, "a"), "b", 1, []byte{0xff, 0x7f}, 8, of(2, 2, 1, "", "a"), 9},
		{of(2, 1, 0, "a"), "b", 1, []byte{0, 0x01}, 15, of(2, 2, 1, "", "b"), 16},
		{of(2, 1, 0, "a"), "b", 1, []byte{255, 255}, 16, of(2, 2, 1, "", "a"), 17},
		{of(2, 1, 0, "a"), "b", 1, []byte{255, 255}, mostAt, of(2, 2, 1, "", "a"), mostAt + 1},
		// Several levels, each with a coin of its own.
		{of(2, 3, 0, "a", "b"), "c", 1, nil, 0, of(2, 4, 3, "", "", "a"), 2},
		{of(2, 3, 0, "a", "b"), "c", 1, []byte{0x80}, 0, of(2, 4, 3, "", "", "b"), 2},
		{of(2, 3, 0, "a", "b"), "c", 1, []byte{0x40}, 0, of(2, 4, 3, "", "", "b"), 2},
		{of(2, 3, 0, "a", "b"), "c", 1, []byte{0xc0}, 0, of(2, 4, 3, "", "", "c"), 2},
		{of(2, 7, 4, "m", "k", "z"), "p", 1, []byte{0x05}, 4, of(2, 8, 11, "", "", "", "m"), 7},
		{of(2, 7, 4, "m", "k", "z"), "p", 1, []byte{0x07}, 5, of(2, 8, 11, "", "", "", "z"), 8},
		// A level that is not full ends it, and one above is full by the weight.
		{of(2, 5, 1, "a", "", "c"), "b", 1, nil, 0, of(2, 6, 2, "", "a", "c"), 1},
		{of(2, 5, 1, "a", "", "c"), "b", 5, []byte{0x40}, 0, of(2, 10, 6, "", "a", "", "c"), 2},
		{of(2, 4, 0, "", "", "c"), "d", 6, []byte{0x40}, 1, of(2, 10, 4, "", "d", "", "d"), 2},
		// Three keys of the level: the largest one stays.
		{of(2, 3, 0, "a", "b"), "c", 3, []byte{0x80}, 0, of(2, 6, 3, "", "c", "b"), 2},
		{of(2, 3, 0, "a", "b"), "c", 3, []byte{0xc0}, 0, of(2, 6, 3, "", "c", "c"), 2},
		{of(4, 9, 0, "bdf", "aeh"), "g", 3, []byte{0x80}, 0, of(4, 12, 3, "", "", "aeg"), 2},
		{of(4, 9, 0, "bdf", "aeh"), "g", 1, nil, 0, of(4, 10, 3, "", "h", "ae"), 2},
		{of(4, 3, 0, "bdf"), "c", 1, nil, 0, of(4, 4, 1, "", "bd"), 1},
		{of(4, 3, 0, "bdf"), "c", 1, []byte{0x80}, 0, of(4, 4, 1, "", "cf"), 1},
		{of(4, 3, 0, "bbb"), "b", 1, []byte{0x80}, 0, of(4, 4, 1, "", "bb"), 1},
		// Slack saturates without effect on Saturated.
		{of(2, 1, mostTotal-1, "a"), "b", 1, nil, 0, of(2, 2, mostTotal, "", "a"), 1},
		{of(2, 1, mostTotal, "a"), "b", 1, nil, 0, of(2, 2, mostTotal, "", "a"), 1},
		{of(2, 3, mostTotal-2, "a", "b"), "c", 1, nil, 0, of(2, 4, mostTotal, "", "", "a"), 2},
		{of(2, 3, mostTotal-3, "a", "b"), "c", 1, nil, 0, of(2, 4, mostTotal, "", "", "a"), 2},
		{of(2, 3, mostTotal-4, "a", "b"), "c", 1, nil, 0, of(2, 4, mostTotal-1, "", "", "a"), 2},
	} {
		item := api.Item{Key: x.key, Weight: x.n}
		checkInsert(t, x.r, item, x.flips, x.at, x.want, x.next)
		checkInsert(t, saturated(x.r), item, x.flips, x.at, saturated(x.want), x.next)
	}
}

func TestInsertOfLargeWeights(t *testing.T) {
	ones := bytes.Repeat([]byte{255}, 8)
	for _, x := range []struct {
		r     api.Ranks
		n     int
		flips []byte
		want  api.Ranks
		next  int
	}{
		{of(2, 0, 0), mostOf, ones, binaryOf(2, mostOf, 0, "b"), 2},
		// With 3 keys on each level but the first one, all levels are full.
		{binaryOf(2, mostOf, 7, "b"), mostOf, ones, binaryOf(2, 2*mostOf, 7+mostOf, "b"), 34},
		{binaryOf(2, mostOf, 7, "b"), 1, ones, binaryOf(2, mostOf+1, 7+mostOf, "b"), 34},
		// Up to MaxTotal, with the last possible level.
		{binaryOf(2, mostTotal-1, 0, "b"), 1, nil, binaryOf(2, mostTotal, mostTotal-1, "b"), 42},
		{binaryOf(2, mostTotal-1, 1, "b"), 1, nil, binaryOf(2, mostTotal, mostTotal, "b"), 42},
		{binaryOf(2, mostTotal-1, 2, "b"), 1, nil, binaryOf(2, mostTotal, mostTotal, "b"), 42},
		{binaryOf(2, mostTotal-mostOf, 0, "b"), mostOf, nil, binaryOf(2, mostTotal, mostTotal-1, "b"), 42},
		// Above MaxTotal nothing but Saturated changes.
		{binaryOf(2, mostTotal-1, 3, "z"), 2, nil, saturated(binaryOf(2, mostTotal-1, 3, "z")), 2},
		{binaryOf(2, mostTotal-mostOf+1, 0, "z"), mostOf, nil, saturated(binaryOf(2, mostTotal-mostOf+1, 0, "z")), 2},
		{binaryOf(2, mostTotal, 0, "z"), 1, ones, saturated(binaryOf(2, mostTotal, 0, "z")), 2},
		{binaryOf(32, mostTotal, mostTotal, "z"), mostOf, ones, saturated(binaryOf(32, mostTotal, mostTotal, "z")), 2},
	} {
		item := api.Item{Key: "b", Weight: x.n}
		checkInsert(t, x.r, item, x.flips, 2, x.want, x.next)
		checkInsert(t, saturated(x.r), item, x.flips, 2, saturated(x.want), x.next)
	}
}

func TestInsertIntoEachSize(t *testing.T) {
	keys := keysOf(40)
	for size := 2; size <= mostSize; size += 2 {
		for levels := range mostLevels + 1 {
			r := filled(size, levels, size*levels)
			for i := range 12 {
				n := word(size*1000 + levels*20 + i)
				item := api.Item{Key: keys[n>>8%len(keys)], Weight: 1 + n>>16%mostOf>>(n%33)}
				flips, at := someCoins(n>>40), n>>50%70
				want, next := inserted(r, item, flips, at)
				checkInsert(t, r, item, flips, at, want, next)
			}
		}
	}
}

func TestErrorsOfInsert(t *testing.T) {
	good := of(4, 3, 0, "abc")
	item := api.Item{Key: "k", Weight: 1}
	check := func(r api.Ranks, x api.Item, at int, want api.Errno) {
		t.Helper()
		if s, next, e := Insert(r, x, []byte{255}, at); e != want || next != 0 || !isZero(s) {
			t.Errorf("Insert(%v, %v, 255, %d) = %v, %d, %d; want error %d", r, x, at, s, next, e, want)
		}
	}
	full := binaryOf(4, mostTotal, 0, "a")
	for _, r := range []api.Ranks{good, of(2, 0, 0), full} {
		for _, at := range []int{0, 5, mostAt, -1, mostAt + 1} {
			check(r, api.Item{Key: "", Weight: 1}, at, api.ErrKey)
			check(r, api.Item{Key: strings.Repeat("k", 33), Weight: 1}, at, api.ErrKey)
			check(r, api.Item{}, at, api.ErrKey)
			for _, n := range edges() {
				if n < 1 || n > mostOf {
					check(r, api.Item{Key: "k", Weight: n}, at, api.ErrRange)
				}
			}
		}
		for _, at := range edges() {
			if at < 0 || at > mostAt {
				check(r, item, at, api.ErrRange)
			} else if _, _, e := Insert(r, item, nil, at); e != api.OK {
				t.Errorf("Insert(%v, %v, nil, %d): error %d", r, item, at, e)
			}
		}
	}
	for _, x := range badSummaries() {
		for _, bad := range []api.Item{item, {}, {Key: "k"}} {
			check(x.r, bad, 3, x.e)
			check(x.r, bad, -1, x.e)
		}
	}
}

func TestMerge(t *testing.T) {
	for _, x := range []struct {
		a, b  api.Ranks
		flips []byte
		at    int
		want  api.Ranks
		next  int
	}{
		{of(2, 0, 0), of(2, 0, 0), nil, 9, of(2, 0, 0), 9},
		{of(2, 0, 3), of(2, 0, 4), nil, 0, of(2, 0, 7), 0},
		{of(2, 3, 1, "b", "a"), of(2, 0, 0), nil, 0, of(2, 3, 1, "b", "a"), 0},
		{of(2, 0, 0), of(2, 3, 1, "b", "a"), nil, 5, of(2, 3, 1, "b", "a"), 5},
		{of(2, 1, 0, "a"), of(2, 2, 1, "", "b"), nil, 0, of(2, 3, 1, "a", "b"), 0},
		{of(2, 2, 0, "", "b"), of(2, 5, 1, "a", "", "c"), nil, 0, of(2, 7, 1, "a", "b", "c"), 0},
		{of(4, 2, 0, "bd"), of(4, 3, 0, "c", "m"), nil, 0, of(4, 5, 0, "bcd", "m"), 0},
		{of(4, 4, 0, "bd", "z"), of(4, 5, 0, "c", "mn"), nil, 1, of(4, 9, 0, "bcd", "mnz"), 1},
		// The largest one of an odd number of keys stays.
		{of(4, 3, 0, "ace"), of(4, 2, 0, "bd"), []byte{0x40}, 1, of(4, 5, 1, "e", "bd"), 2},
		{of(4, 3, 0, "ace"), of(4, 2, 0, "bd"), []byte{0xbf}, 1, of(4, 5, 1, "e", "ac"), 2},
		{of(4, 3, 0, "ace"), of(4, 3, 0, "bdf"), nil, 0, of(4, 6, 1, "", "ace"), 1},
		{of(4, 3, 0, "ace"), of(4, 3, 0, "bdf"), []byte{0x80}, 0, of(4, 6, 1, "", "bdf"), 1},
		{of(4, 3, 2, "ace"), of(4, 1, 3, "f"), []byte{0x80}, 0, of(4, 4, 6, "", "cf"), 1},
		// The next level is full by the keys that it had, or with those moved.
		{of(4, 6, 0, "", "ace"), of(4, 6, 0, "", "bdf"), nil, 0, of(4, 12, 2, "", "", "ace"), 1},
		{of(4, 9, 0, "ace", "xyz"), of(4, 3, 0, "bdf"), []byte{0x40}, 0, of(4, 12, 3, "", "", "cxz"), 2},
		{of(4, 9, 0, "ace", "xyz"), of(4, 5, 0, "bdf", "b"), []byte{0x40}, 0, of(4, 14, 3, "", "z", "bey"), 2},
		{of(4, 6, 0, "bd", "xz"), of(4, 4, 0, "ac", "y"), []byte{0x80}, 0, of(4, 10, 3, "", "z", "bx"), 2},
		// Two levels of their own that are full, and a level that is added.
		{of(2, 3, 1, "a", "d"), of(2, 3, 1, "b", "c"), nil, 0, of(2, 6, 5, "", "d", "a"), 2},
		{of(2, 3, 1, "a", "d"), of(2, 3, 1, "b", "c"), []byte{0x40}, 0, of(2, 6, 5, "", "d", "c"), 2},
		{of(2, 5, 1, "a", "", "d"), of(2, 5, 1, "b", "", "c"), []byte{0x40}, 0, of(2, 10, 7, "", "a", "", "d"), 2},
		{of(2, 1, 0, "a"), of(2, 7, 0, "b", "c", "d"), []byte{0x3f}, 0, of(2, 8, 7, "", "", "", "d"), 3},
		// Slack saturates, in the sum and after it.
		{of(2, 0, mostTotal), of(2, 0, mostTotal), nil, 0, of(2, 0, mostTotal), 0},
		{of(2, 0, mostTotal-4), of(2, 0, 5), nil, 0, of(2, 0, mostTotal), 0},
		{of(2, 0, mostTotal-4), of(2, 0, 4), nil, 0, of(2, 0, mostTotal), 0},
		{of(2, 0, mostTotal-4), of(2, 0, 3), nil, 0, of(2, 0, mostTotal-1), 0},
		{of(2, 1, mostTotal-4, "a"), of(2, 1, 3, "b"), nil, 0, of(2, 2, mostTotal, "", "a"), 1},
		{of(2, 1, mostTotal-4, "a"), of(2, 1, 4, "b"), nil, 0, of(2, 2, mostTotal, "", "a"), 1},
		{of(2, 1, mostTotal, "a"), of(2, 1, mostTotal, "b"), nil, 0, of(2, 2, mostTotal, "", "a"), 1},
	} {
		checkMerge(t, x.a, x.b, x.flips, x.at, x.want, x.next)
		checkMerge(t, saturated(x.a), x.b, x.flips, x.at, saturated(x.want), x.next)
		checkMerge(t, x.a, saturated(x.b), x.flips, x.at, saturated(x.want), x.next)
		checkMerge(t, saturated(x.a), saturated(x.b), x.flips, x.at, saturated(x.want), x.next)
	}
}

func TestMergeOfLargeTotals(t *testing.T) {
	zeros, ones := []byte(nil), bytes.Repeat([]byte{255}, 8)
	half := mostTotal / 2
	a := of(4, 3, 2, "abz")
	for _, x := range []struct {
		a, b  api.Ranks
		flips []byte
		want  api.Ranks
		next  int
	}{
		{binaryOf(2, half, 1, "b"), binaryOf(2, half, 0, "b"), zeros, binaryOf(2, mostTotal, 1+half, "b"), 3},
		{binaryOf(2, half, 1, "b"), binaryOf(2, half-1, 0, "b"), ones, binaryOf(2, mostTotal-1, 1, "b"), 2},
		{binaryOf(2, mostTotal-1, 0, "b"), binaryOf(2, 1, 0, "b"), zeros, binaryOf(2, mostTotal, mostTotal-1, "b"), 42},
		{binaryOf(2, mostTotal-1, 3, "b"), binaryOf(2, 1, 0, "b"), ones, binaryOf(2, mostTotal, mostTotal, "b"), 42},
		{binaryOf(4, mostTotal, 8, "b"), of(4, 0, 7), zeros, binaryOf(4, mostTotal, 15, "b"), 2},
		{of(4, 0, 7), binaryOf(4, mostTotal, 8, "b"), zeros, binaryOf(4, mostTotal, 15, "b"), 2},
		// Above MaxTotal the result is the first summary, with its Slack.
		{binaryOf(2, half, 1, "b"), binaryOf(2, half+1, 5, "b"), ones, saturated(binaryOf(2, half, 1, "b")), 2},
		{binaryOf(2, half+1, 1, "b"), binaryOf(2, half, 5, "b"), ones, saturated(binaryOf(2, half+1, 1, "b")), 2},
		{binaryOf(2, mostTotal, 0, "b"), binaryOf(2, mostTotal, 5, "z"), ones, saturated(binaryOf(2, mostTotal, 0, "b")), 2},
		{a, binaryOf(4, mostTotal, mostTotal, "b"), ones, saturated(a), 2},
		{a, binaryOf(4, mostTotal-2, 0, "b"), ones, saturated(a), 2},
		{binaryOf(4, mostTotal-2, 0, "b"), a, ones, saturated(binaryOf(4, mostTotal-2, 0, "b")), 2},
	} {
		checkMerge(t, x.a, x.b, x.flips, 2, x.want, x.next)
		checkMerge(t, saturated(x.a), x.b, x.flips, 2, saturated(x.want), x.next)
		checkMerge(t, x.a, saturated(x.b), x.flips, 2, saturated(x.want), x.next)
	}
}

func TestMergeOfEachSize(t *testing.T) {
	for size := 2; size <= mostSize; size += 2 {
		for i := range 40 {
			n := word(size*1000 + i)
			a := filled(size, n>>8%(mostLevels+1), n>>16%1000)
			b := filled(size, n>>24%(mostLevels+1), n>>32%1000)
			flips, at := someCoins(n>>40), n>>50%70
			want, next := merged(a, b, flips, at)
			checkMerge(t, a, b, flips, at, want, next)
			want, next = merged(a, a, flips, at)
			checkMerge(t, a, a, flips, at, want, next)
		}
	}
}

func TestErrorsOfMerge(t *testing.T) {
	good := of(4, 3, 0, "abc")
	check := func(a, b api.Ranks, at int, want api.Errno) {
		t.Helper()
		if s, next, e := Merge(a, b, []byte{255}, at); e != want || next != 0 || !isZero(s) {
			t.Errorf("Merge(%v, %v, 255, %d) = %v, %d, %d; want error %d", a, b, at, s, next, e, want)
		}
	}
	for _, at := range []int{0, mostAt, -1, mostAt + 1} {
		for _, other := range []api.Ranks{of(2, 0, 0), of(6, 3, 0, "abc"), of(32, 1, 0, "a"), binaryOf(2, mostTotal, 0, "a")} {
			check(good, other, at, api.ErrKind)
			check(other, good, at, api.ErrKind)
		}
		for _, x := range badSummaries() {
			check(x.r, good, at, x.e)
			check(good, x.r, at, x.e)
			// The first summary counts before the second one, and both before
			// different sizes.
			check(x.r, of(2, 2, 0, "ab"), at, x.e)
			check(of(2, 2, 0, "ab"), x.r, at, api.ErrTooLarge)
			check(x.r, of(8, 2, 0, "ba"), at, x.e)
			check(of(8, 2, 0, "ba"), x.r, at, api.ErrOrder)
		}
	}
	for _, b := range []api.Ranks{good, of(4, 0, 0), binaryOf(4, mostTotal, 0, "a")} {
		for _, at := range edges() {
			if at < 0 || at > mostAt {
				check(good, b, at, api.ErrRange)
			} else if _, _, e := Merge(good, b, nil, at); e != api.OK {
				t.Errorf("Merge(%v, %v, nil, %d): error %d", good, b, at, e)
			}
		}
	}
}

func TestRank(t *testing.T) {
	r := of(4, 1+2+2+4+8, 3, "m", "bb", "c", "z")
	for _, x := range []struct {
		r    api.Ranks
		key  string
		want int
	}{
		// Example 1 of the chapter.
		{of(2, 2, 1, "", "a"), "a", 2},
		{of(2, 2, 1, "", "a"), "b", 2},
		{of(2, 2, 1, "", "b"), "a", 0},
		{r, "a", 0},
		{r, "b", 4},
		{r, "b\x00", 4},
		{r, "bz", 4},
		{r, "c", 8},
		{r, "l\xff", 8},
		{r, "m", 9},
		{r, "y", 9},
		{r, "z", 17},
		{r, strings.Repeat("\xff", 32), 17},
		{r, "\x00", 0},
		{r, "B", 0},
		{of(2, 0, 0), "a", 0},
		{binaryOf(2, mostTotal, 0, "m"), "l", 0},
		{binaryOf(2, mostTotal, 0, "m"), "m", mostTotal},
		{binaryOf(2, mostTotal-1, 0, "m"), "n", mostTotal - 1},
		{single(4, 3, "\x00", "é", "\xff"), "z", 1},
		{single(4, 3, "\x00", "é", "\xff"), "\xfe", 2},
	} {
		for _, r := range []api.Ranks{x.r, saturated(x.r)} {
			if n, e := Rank(r, x.key); n != x.want || e != api.OK {
				t.Errorf("Rank(%v, %q) = %d, %d; want %d", r, x.key, n, e, x.want)
			}
		}
	}
}

func TestErrorsOfRank(t *testing.T) {
	long := strings.Repeat("k", 33)
	for _, r := range []api.Ranks{of(2, 0, 0), of(4, 3, 0, "abc")} {
		for _, key := range []string{"", long, strings.Repeat("k", 1000)} {
			if n, e := Rank(r, key); n != 0 || e != api.ErrKey {
				t.Errorf("Rank(%v, %q) = %d, %d", r, key, n, e)
			}
		}
	}
	for _, x := range badSummaries() {
		for _, key := range []string{"z", "", long} {
			if n, e := Rank(x.r, key); n != 0 || e != x.e {
				t.Errorf("Rank(%v, %q) = %d, %d; want error %d", x.r, key, n, e, x.e)
			}
		}
	}
}

func TestQuantile(t *testing.T) {
	// The ranks are 4 for b, 8 for c, 9 for m and 17 for z.
	r := of(4, 17, 3, "m", "bb", "c", "z")
	huge := of(2, mostTotal-1, 0, append(slices.Repeat([]string{"b"}, 39), "c")...)
	for _, x := range []struct {
		r        api.Ranks
		num, den int
		want     string
	}{
		{r, 0, 1, "b"},
		{r, 0, 1000000, "b"},
		{r, 1, 17, "b"},
		{r, 1, 1000000, "b"},
		{r, 4, 17, "b"},
		{r, 235294, 1000000, "b"},
		{r, 235295, 1000000, "c"},
		{r, 1, 4, "c"},
		{r, 8, 17, "c"},
		{r, 470588, 1000000, "c"},
		{r, 470589, 1000000, "m"},
		{r, 1, 2, "m"},
		{r, 9, 17, "m"},
		{r, 10, 17, "z"},
		{r, 17, 17, "z"},
		{r, 1, 1, "z"},
		{r, 999999, 1000000, "z"},
		{r, 1000000, 1000000, "z"},
		{of(2, 2, 1, "", "a"), 0, 5, "a"},
		{of(2, 2, 1, "", "a"), 5, 5, "a"},
		{of(4, 3, 0, "aab"), 2, 3, "a"},
		{of(4, 3, 0, "aab"), 666666, 1000000, "a"},
		{of(4, 3, 0, "aab"), 666667, 1000000, "b"},
		// The product is as large as it can be.
		{binaryOf(2, mostTotal, 0, "m"), 1000000, 1000000, "m"},
		{huge, 0, 1000000, "b"},
		{huge, 499999, 1000000, "b"},
		{huge, 500000, 1000000, "c"},
		{huge, 1000000, 1000000, "c"},
		{huge, 999999, 999999, "c"},
	} {
		for _, r := range []api.Ranks{x.r, saturated(x.r)} {
			if key, e := Quantile(r, x.num, x.den); key != x.want || e != api.OK {
				t.Errorf("Quantile(%v, %d, %d) = %q, %d; want %q", r, x.num, x.den, key, e, x.want)
			}
		}
	}
}

func TestRankAndQuantileOfEachSize(t *testing.T) {
	for size := 2; size <= mostSize; size += 2 {
		for _, levels := range []int{1, 2, 3, 8, 37, mostLevels} {
			r := filled(size, levels, size+levels*3)
			for _, key := range append(keysOf(45), "A", "\x00\x00", "zz", strings.Repeat("k", 31)) {
				if n, e := Rank(r, key); n != rankOf(r, key) || e != api.OK {
					t.Errorf("Rank(%v, %q) = %d, %d; want %d", r, key, n, e, rankOf(r, key))
				}
			}
			for _, den := range []int{1, 2, 3, 4, 7, 16, 999999, 1000000} {
				for _, num := range []int{0, 1, den / 3, den / 2, den/2 + 1, den - 1, den} {
					num = min(num, den)
					if key, e := Quantile(r, num, den); key != quantileOf(r, num, den) || e != api.OK {
						t.Errorf("Quantile(%v, %d, %d) = %q, %d", r, num, den, key, e)
					}
				}
			}
		}
	}
}

func TestErrorsOfQuantile(t *testing.T) {
	check := func(r api.Ranks, num, den int, want api.Errno) {
		t.Helper()
		if key, e := Quantile(r, num, den); key != "" || e != want {
			t.Errorf("Quantile(%v, %d, %d) = %q, %d; want error %d", r, num, den, key, e, want)
		}
	}
	good, empty := of(4, 3, 0, "abc"), of(4, 0, 0)
	for _, den := range append(edges(), 999999, 1000000, 1000001) {
		for _, num := range append(edges(), den-1, den, den+1) {
			if den >= 1 && den <= 1000000 && num >= 0 && num <= den {
				check(empty, num, den, api.ErrState)
				check(saturated(empty), num, den, api.ErrState)
				if key, e := Quantile(good, num, den); key != quantileOf(good, num, den) || e != api.OK {
					t.Errorf("Quantile(%v, %d, %d) = %q, %d", good, num, den, key, e)
				}
				continue
			}
			check(good, num, den, api.ErrRange)
			check(empty, num, den, api.ErrRange)
		}
	}
	for _, x := range badSummaries() {
		check(x.r, 1, 2, x.e)
		check(x.r, 1, 0, x.e)
		check(x.r, 3, 2, x.e)
	}
}

// weighed is a summary with the exact weights of its keys.
type weighed struct {
	r       api.Ranks
	weights map[string]int
}

func (w weighed) plus(weights map[string]int) map[string]int {
	sum := make(map[string]int)
	for _, l := range []map[string]int{w.weights, weights} {
		for key, n := range l {
			sum[key] += n
		}
	}
	return sum
}

// insert also moves the position of the coins.
func (w weighed) insert(t *testing.T, x api.Item, flips []byte, at *int) weighed {
	t.Helper()
	r, next, e := Insert(w.r, x, flips, *at)
	if e != api.OK || next < *at {
		t.Fatalf("Insert(%v, %v, %v, %d) = %v, %d, %d", w.r, x, flips, *at, r, next, e)
	}
	*at = next
	return weighed{r, w.plus(map[string]int{x.Key: x.Weight})}
}

func (w weighed) merge(t *testing.T, v weighed, flips []byte, at *int) weighed {
	t.Helper()
	r, next, e := Merge(w.r, v.r, flips, *at)
	if e != api.OK || next < *at {
		t.Fatalf("Merge(%v, %v, %v, %d) = %v, %d, %d", w.r, v.r, flips, *at, r, next, e)
	}
	*at = next
	return weighed{r, w.plus(v.weights)}
}

// check checks P11.6 for the keys and others before, between and after them.
func (w weighed) check(t *testing.T, keys []string) {
	t.Helper()
	total := 0
	for _, n := range w.weights {
		total += n
	}
	if e := Validate(w.r); e != api.OK || w.r.Saturated || w.r.Total != total {
		t.Errorf("%v has total %d; Validate: %d", w.r, total, e)
	}
	probes := []string{"\x00", strings.Repeat("\xff", 32)}
	for _, key := range keys {
		probes = append(probes, key, (key + "\x00")[:min(len(key)+1, 32)])
	}
	for _, key := range probes {
		exact := 0
		for x, n := range w.weights {
			if x <= key {
				exact += n
			}
		}
		if n, e := Rank(w.r, key); e != api.OK || n-exact > w.r.Slack || exact-n > w.r.Slack {
			t.Errorf("Rank(%v, %q) = %d, %d; exactly %d are at most the key", w.r, key, n, e, exact)
		}
	}
}

// All short sequences are inserted with all coins at the first three positions,
// in all splits into two parts that are merged.
func TestBoundsOfShortSequences(t *testing.T) {
	keys := []string{"a", "b", "c"}
	weights := []int{1, 3}
	kinds := len(keys) * len(weights)
	for _, size := range []int{2, 4} {
		for length, n := 0, 1; length <= 4; length, n = length+1, n*kinds {
			for code := range n * 8 {
				flips, at := []byte{byte(code % 8 << 5)}, 0
				for split := range length + 1 {
					left, right := weighed{r: of(size, 0, 0)}, weighed{r: of(size, 0, 0)}
					for i, rest := 0, code/8; i < length; i, rest = i+1, rest/kinds {
						item := api.Item{Key: keys[rest%len(keys)], Weight: weights[rest%kinds/len(keys)]}
						if i < split {
							left = left.insert(t, item, flips, &at)
						} else {
							right = right.insert(t, item, flips, &at)
						}
					}
					left.merge(t, right, flips, &at).check(t, keys)
					at = 0
				}
			}
		}
	}
}

func TestBoundsOfLongSequences(t *testing.T) {
	keys := keysOf(60)
	for size := 2; size <= mostSize; size += 2 {
		l := make([]weighed, 4)
		for i := range l {
			l[i].r.Size = size
		}
		var flips []byte
		for i := range 64 {
			flips = append(flips, someCoins(i+size)...)
		}
		at := 0
		for i := range 300 {
			n := word(i + 500*size)
			to, from := n%4, n/4%4
			item := api.Item{Key: keys[n>>8%60*(n>>16%60)/60], Weight: 1 + n>>24%(1<<(n>>32%20))}
			l[to] = l[to].insert(t, item, flips, &at)
			// Now and then one part is merged into another one, and begins anew.
			if from != to && n>>40%8 == 0 {
				l[to] = l[to].merge(t, l[from], flips, &at)
				l[from] = weighed{r: of(size, 0, 0)}
			}
			l[to].check(t, keys)
		}
		all := l[0].merge(t, l[1], flips, &at).merge(t, l[2].merge(t, l[3], flips, &at), flips, &at)
		all.check(t, keys)
	}
}

// Without a coin nothing is lost.
func TestSmallSummariesAreExact(t *testing.T) {
	for size := 2; size <= mostSize; size += 2 {
		at := 5
		w := weighed{r: of(size, 0, 0)}
		for _, key := range keysOf(size - 1) {
			w = w.insert(t, api.Item{Key: key, Weight: 1}, []byte{255}, &at)
		}
		w.check(t, keysOf(size))
		if w.r.Slack != 0 || at != 5 || len(w.r.Levels) != 1 {
			t.Errorf("%v after the coin at %d", w.r, at)
		}
		w = w.insert(t, api.Item{Key: "new", Weight: 1}, []byte{255}, &at)
		w.check(t, keysOf(size))
		if w.r.Slack != 1 || at != 6 || len(w.r.Levels) != 2 || len(w.r.Levels[0]) != 0 {
			t.Errorf("%v after the coin at %d", w.r, at)
		}
	}
}

func TestEncode(t *testing.T) {
	for _, x := range []struct {
		r    api.Ranks
		want []byte
	}{
		{of(2, 0, 0), []byte{2, 0, 0, 0, 0}},
		{saturated(of(32, 0, 248)), []byte{32, 0, 248, 248, 1, 0}},
		{of(2, 1, 3, "a"), []byte{2, 1, 3, 0, 1, 1, 1, 'a'}},
		{
			saturated(of(4, 6, 256, "ab", "", "z")),
			[]byte{4, 6, 249, 1, 0, 1, 3, 2, 1, 'a', 1, 'b', 0, 1, 1, 'z'},
		},
		{
			api.Ranks{Size: 4, Total: 5, Slack: mostTotal, Levels: [][]string{{"kk"}, {"\x00", "\x00\xff"}}},
			[]byte{4, 5, 253, 1, 0, 0, 0, 0, 0, 0, 2, 1, 2, 'k', 'k', 2, 1, 0, 2, 0, 255},
		},
		{
			binaryOf(2, mostTotal, 0, "m"),
			append([]byte{2, 253, 1, 0, 0, 0, 0, 0, 0, 0, 41}, append(make([]byte, 40), 1, 1, 'm')...),
		},
	} {
		checkCode(t, x.r, x.want)
	}
	for _, x := range badSummaries() {
		if b, e := Encode(x.r); e != x.e || len(b) > 0 {
			t.Errorf("Encode(%v) = %v, %d; want error %d", x.r, b, e, x.e)
		}
	}
}

func TestEncodeOfEachSize(t *testing.T) {
	for size := 2; size <= mostSize; size += 2 {
		for levels := range mostLevels + 1 {
			for i := range 3 {
				r := filled(size, levels, i*levels+size)
				checkCode(t, r, joined(r))
				checkCode(t, saturated(r), joined(saturated(r)))
			}
		}
	}
}

func checkCode(t *testing.T, r api.Ranks, want []byte) {
	t.Helper()
	if b, e := Encode(r); e != api.OK || !bytes.Equal(b, want) {
		t.Errorf("Encode(%v) = %v, %d; want %v", r, b, e, want)
	}
	if again, e := Decode(want); e != api.OK || !same(again, r) {
		t.Errorf("Decode(%v) = %v, %d; want %v", want, again, e, r)
	}
}

func TestDecodeRefuses(t *testing.T) {
	a, ab := level("a"), level("ab")
	long := strings.Repeat("k", 33)
	codes := [][]byte{
		nil,
		{2},
		{2, 0, 0, 0},
		// Numbers out of range.
		head(0, 0, 0, 0, 0),
		head(3, 0, 0, 0, 0),
		head(34, 0, 0, 0, 0),
		head(256+2, 0, 0, 0, 0),
		head(1<<62, 0, 0, 0, 0),
		head(2, 1, 0, 0, 0),
		head(2, mostTotal+1, 0, 0, 0),
		head(2, math.MaxInt, 0, 0, 0),
		head(2, 0, mostTotal+1, 0, 0),
		head(2, 0, 1<<62, 0, 0),
		head(2, 0, math.MaxInt, 0, 0),
		head(2, 0, 0, 2, 0),
		head(2, 0, 0, 255, 0),
		head(2, 0, 0, 256, 0),
		head(2, 0, 0, 257, 0),
		head(2, 0, 0, 1<<32+1, 0),
		// Too few and too many levels and keys.
		withLevels(head(4, 1, 0, 0, 0), a),
		withLevels(head(4, 3, 0, 0, 2), a),
		withLevels(head(4, 3, 0, 0, 3), a, a),
		withLevels(head(4, 1, 0, 0, 1), a, a),
		withLevels(head(4, 1, 0, 0, 42), make([][]string, 42)...),
		withLevels(head(4, 1, 0, 0, 42), append([][]string{a}, make([][]string, 41)...)...),
		withLevels(head(4, 1, 0, 0, 257), a),
		withLevels(head(4, 1, 0, 0, 1<<32+1), a),
		withLevels(head(4, 1, 0, 0, 1<<62), a),
		withLevels(head(4, 1, 0, 0, math.MaxInt), a),
		withLevels(head(2, 2, 0, 0, 1), ab),
		withLevels(head(32, 32, 0, 0, 1), slices.Repeat(a, 32)),
		withLevels(head(32, 33, 0, 0, 1), slices.Repeat(a, 33)),
		slices.Concat(head(4, 1, 0, 0, 1, 2), []byte{1, 'a'}),
		slices.Concat(head(4, 2, 0, 0, 1, 1), []byte{1, 'a', 1, 'b'}),
		slices.Concat(head(4, 1, 0, 0, 1, 257), []byte{1, 'a'}),
		slices.Concat(head(4, 1, 0, 0, 1, 1<<32+1), []byte{1, 'a'}),
		slices.Concat(head(4, 1, 0, 0, 1, 1<<62), []byte{1, 'a'}),
		slices.Concat(head(4, 1, 0, 0, 1, 1<<62)),
		slices.Concat(head(4, 1, 0, 0, 1, math.MaxInt), []byte{1, 'a'}),
		// Levels and keys that are not valid.
		withLevels(head(4, 1, 0, 0, 1), []string{""}),
		withLevels(head(4, 1, 0, 0, 1), []string{long}),
		withLevels(head(4, 1, 0, 0, 1), []string{strings.Repeat("k", 1<<16)}),
		withLevels(head(4, 1, 0, 0, 1), []string{strings.Repeat("k", 1<<16+1)}),
		withLevels(head(4, 2, 0, 0, 1), level("ba")),
		withLevels(head(4, 0, 0, 0, 1), nil),
		withLevels(head(4, 1, 0, 0, 2), a, nil),
		withLevels(head(4, 2, 0, 0, 1), a),
		withLevels(head(4, 0, 0, 0, 1), a),
		withLevels(head(4, 2, 0, 0, 2), a, a),
		withLevels(head(4, 0, 0, 0, 41), append(make([][]string, 40), a)...),
		// Numbers and texts that wire does not write in this way.
		{248, 2, 0, 0, 0, 0},
		{2, 248, 0, 0, 0, 0},
		{2, 0, 248, 247, 0, 0},
		{2, 0, 249, 0, 248, 0, 0},
		{2, 0, 0, 248, 1, 0},
		{2, 0, 0, 0, 248, 0},
		{255, 0, 0, 0, 0, 0, 0, 0, 2, 0, 0, 0, 0},
		{2, 1, 0, 0, 248, 1, 1, 1, 'a'},
		{2, 1, 0, 0, 1, 248, 1, 1, 'a'},
		{2, 1, 0, 0, 1, 1, 248, 1, 'a'},
		bytes.Repeat([]byte{0}, 13),
		bytes.Repeat([]byte{1}, 1000),
		bytes.Repeat([]byte{2}, 1000),
		bytes.Repeat([]byte{255}, 1000),
	}
	for _, code := range codes {
		if r, e := Decode(code); e != api.ErrForm || !isZero(r) {
			t.Errorf("Decode(%v) = %v, %d", code, r, e)
		}
	}
}

func TestDecodeOfChangedBytes(t *testing.T) {
	for _, r := range []api.Ranks{of(2, 0, 0), saturated(of(4, 11, 300, "abz", "", "", "k")), filled(6, 9, 77)} {
		b := joined(r)
		for i := range b {
			// The missing bytes still follow, as spare capacity.
			if s, e := Decode(b[:i]); e != api.ErrForm || !isZero(s) {
				t.Errorf("Decode(%v) = %v, %d", b[:i], s, e)
			}
		}
		for _, x := range []byte{0, 1, 248, 255} {
			if s, e := Decode(append(slices.Clone(b), x)); e != api.ErrForm || !isZero(s) {
				t.Errorf("Decode(%v and %d) = %v, %d", b, x, s, e)
			}
		}
		for i := range b {
			for x := range 256 {
				changed := slices.Clone(b)
				changed[i] = byte(x)
				checkExact(t, changed)
			}
		}
	}
}

// checkExact checks that Decode finds a summary only if its encoding is b.
func checkExact(t *testing.T, b []byte) {
	t.Helper()
	r, e := Decode(b)
	if e != api.OK {
		if e != api.ErrForm || !isZero(r) {
			t.Errorf("Decode(%v) = %v, %d", b, r, e)
		}
		return
	}
	if Validate(r) != api.OK || !bytes.Equal(joined(r), b) {
		t.Errorf("Decode(%v) = %v", b, r)
	}
}

// guard copies the levels into lists with spare capacity, and returns these
// lists in full, so that a change of either shows.
func guard(r api.Ranks) (guarded api.Ranks, all [][]string) {
	for _, keys := range r.Levels {
		all = append(all, append(slices.Clone(keys), "spare", "more"))
	}
	all = append(all, []string{"next"}, []string{"last"})
	levels := slices.Clone(all)
	for i, keys := range r.Levels {
		levels[i] = all[i][:len(keys)]
	}
	r.Levels = levels[:len(r.Levels)]
	return r, append(all, levels...)
}

func copyOf(levels [][]string) [][]string {
	var l [][]string
	for _, keys := range levels {
		l = append(l, slices.Clone(keys))
	}
	return l
}

func sameLevels(a, b [][]string) bool {
	return slices.EqualFunc(a, b, slices.Equal[[]string])
}

// spoil changes all keys of a result, with the spare capacity of its lists,
// and checks that no two lists share memory.
func spoil(t *testing.T, r api.Ranks) {
	t.Helper()
	for i, keys := range r.Levels {
		others := copyOf(slices.Delete(slices.Clone(r.Levels), i, i+1))
		keys = keys[:cap(keys)]
		for k := range keys {
			keys[k] = "spoiled"
		}
		if !sameLevels(slices.Delete(slices.Clone(r.Levels), i, i+1), others) {
			t.Errorf("level %d shares memory with another one: %v", i, r.Levels)
		}
	}
	clear(r.Levels[:cap(r.Levels)])
}

func TestArgumentsAreNotChanged(t *testing.T) {
	flips := append(someCoins(1), 1, 2, 3)
	flipsBefore := slices.Clone(flips)
	few := flips[:8]
	for size := 2; size <= mostSize; size += 2 {
		for levels := range mostLevels + 1 {
			r, all := guard(filled(size, levels, 8))
			before := copyOf(all)
			other, otherAll := guard(filled(size, levels/2, 9))
			otherBefore := copyOf(otherAll)
			var results []api.Ranks
			for _, weight := range []int{1, 2, 3, 7, mostOf} {
				grown, _, _ := Insert(r, api.Item{Key: "key", Weight: weight}, few, levels)
				results = append(results, grown)
			}
			empty, _ := New(size)
			for _, pair := range [][2]api.Ranks{{r, other}, {other, r}, {r, empty}, {empty, r}, {r, r}} {
				sum, _, _ := Merge(pair[0], pair[1], few, levels)
				results = append(results, sum)
			}
			Validate(r)
			Rank(r, "a")
			Quantile(r, 1, 2)
			Encode(r)
			for _, s := range results {
				spoil(t, s)
			}
			if !sameLevels(all, before) || !sameLevels(otherAll, otherBefore) || !bytes.Equal(flips, flipsBefore) {
				t.Errorf("the levels %v became %v, and %v %v; coins: %v", before, all, otherBefore, otherAll, flips)
			}
		}
	}
}

func TestResultsAreNotShared(t *testing.T) {
	r := filled(10, 9, 4)
	want := joined(r)
	b, _ := Encode(r)
	clear(b[:cap(b)])
	wide := append(slices.Clone(want), 9, 9, 9)
	kept := slices.Clone(wide)
	s, e := Decode(wide[:len(want)])
	if e != api.OK || !same(s, r) || !bytes.Equal(wide, kept) {
		t.Errorf("Decode with spare capacity is %v, %d", s, e)
	}
	clear(wide)
	if !same(s, r) {
		t.Errorf("Decode keeps its argument: %v", s)
	}
	spoil(t, s)
	if again, _ := Encode(r); !bytes.Equal(again, want) {
		t.Errorf("Encode(%v) = %v after a change of an earlier result", r, again)
	}
}
