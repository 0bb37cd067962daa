package topk

import (
	"bytes"
	"encoding/binary"
	"math"
	"slices"
	"strconv"
	"strings"
	"testing"

	"sketchstore/api"
	"sketchstore/mixer"
)

// The limits of the chapter, written once more so that wrong ones show.
const (
	mostSize  = 32
	mostTotal = 1 << 40
	mostOf    = 4294967295 // of a weight
)

// edges are the numbers at which a limit or a sum could go wrong.
func edges() []int {
	return []int{
		math.MinInt, math.MinInt + 1, -1 << 61, -mostTotal, -1 << 32, -33, -32, -2, -1,
		0, 1, 2, 3, 31, 32, 33, 34, 247, 248, 249, 255, 256, 257, 1 << 31,
		mostOf - 1, mostOf, mostOf + 1, mostTotal - 2, mostTotal - 1, mostTotal, mostTotal + 1,
		mostTotal + 2, 1 << 41, 1 << 61, 1<<61 + 1, 1 << 62, math.MaxInt - 1, math.MaxInt,
	}
}

func same(s, t api.Top) bool {
	return s.Size == t.Size && s.Total == t.Total && s.Saturated == t.Saturated && slices.Equal(s.Entries, t.Entries)
}

func isZero(t api.Top) bool {
	return same(t, api.Top{})
}

func topOf(size, total int, entries ...api.Entry) api.Top {
	return api.Top{Size: size, Total: total, Entries: entries}
}

func saturated(t api.Top) api.Top {
	t.Saturated = true
	return t
}

// after returns the summary of items inserted one after another.
func after(t *testing.T, size int, items ...api.Item) api.Top {
	t.Helper()
	s, e := New(size)
	for _, x := range items {
		if e == api.OK {
			s, e = Insert(s, x)
		}
	}
	if e != api.OK {
		t.Fatalf("size %d with %v: error %d", size, items, e)
	}
	return s
}

// ordered is the order of the chapter: the first entry is taken again and again.
func ordered(entries []api.Entry) []api.Entry {
	rest := slices.Clone(entries)
	var l []api.Entry
	for len(rest) > 0 {
		first := 0
		for i, x := range rest {
			y := rest[first]
			if x.Count > y.Count || x.Count == y.Count && x.Key < y.Key {
				first = i
			}
		}
		l = append(l, rest[first])
		rest = slices.Delete(rest, first, first+1)
	}
	return l
}

func leastOf(t api.Top) int {
	if len(t.Entries) < t.Size {
		return 0
	}
	return t.Entries[t.Size-1].Count
}

// foundIn is P9.5 for a valid summary and a key.
func foundIn(t api.Top, key string) (api.Entry, bool) {
	for _, x := range t.Entries {
		if x.Key == key {
			return x, true
		}
	}
	return api.Entry{Key: key, Count: leastOf(t), Error: leastOf(t)}, false
}

// limited is the end of P9.3 for a summary whose sums are exact so far.
func limited(t api.Top, entries []api.Entry) api.Top {
	t.Saturated = t.Saturated || t.Total > mostTotal
	t.Total = min(t.Total, mostTotal)
	for i, x := range entries {
		t.Saturated = t.Saturated || x.Count > mostTotal || x.Error > mostTotal
		x.Count = min(x.Count, mostTotal)
		if x.Error >= x.Count {
			x.Error = x.Count - 1
		}
		entries[i] = x
	}
	entries = ordered(entries)
	if len(entries) > t.Size {
		entries = entries[:t.Size]
	}
	t.Entries = entries
	return t
}

// inserted is P9.3 for a valid summary and a valid item.
func inserted(t api.Top, x api.Item) api.Top {
	entries := slices.Clone(t.Entries)
	t.Total += x.Weight
	i := slices.IndexFunc(entries, func(y api.Entry) bool { return y.Key == x.Key })
	switch {
	case i >= 0:
		entries[i].Count += x.Weight
	case len(entries) < t.Size:
		entries = append(entries, api.Entry{Key: x.Key, Count: x.Weight})
	default:
		n := leastOf(t)
		entries[t.Size-1] = api.Entry{Key: x.Key, Count: n + x.Weight, Error: n}
	}
	return limited(t, entries)
}

// merged is P9.4 for two valid summaries of equal size.
func merged(a, b api.Top) api.Top {
	var entries []api.Entry
	for _, x := range slices.Concat(a.Entries, b.Entries) {
		if !slices.ContainsFunc(entries, func(y api.Entry) bool { return y.Key == x.Key }) {
			inA, _ := foundIn(a, x.Key)
			inB, _ := foundIn(b, x.Key)
			entries = append(entries, api.Entry{Key: x.Key, Count: inA.Count + inB.Count, Error: inA.Error + inB.Error})
		}
	}
	sum := api.Top{Size: a.Size, Total: a.Total + b.Total, Saturated: a.Saturated || b.Saturated}
	return limited(sum, entries)
}

// codeOf is wire.EncodeUint of a number that is not negative.
func codeOf(n int) []byte {
	if n < 248 {
		return []byte{byte(n)}
	}
	digits := bytes.TrimLeft(binary.BigEndian.AppendUint64(nil, uint64(n)), "\x00")
	return append([]byte{byte(247 + len(digits))}, digits...)
}

// join returns the encoding that P9.7 describes, of any numbers and entries.
func join(size, total, flag, length int, entries ...api.Entry) []byte {
	b := slices.Concat(codeOf(size), codeOf(total), codeOf(flag), codeOf(length))
	for _, x := range entries {
		b = slices.Concat(b, codeOf(len(x.Key)), []byte(x.Key), codeOf(x.Count), codeOf(x.Error))
	}
	return b
}

// joined is the encoding of a valid summary.
func joined(t api.Top) []byte {
	flag := 0
	if t.Saturated {
		flag = 1
	}
	return join(t.Size, t.Total, flag, len(t.Entries), t.Entries...)
}

// word returns a number of a fixed sequence.
func word(i int) int {
	return int(mixer.Mix(uint64(i)*12345+678) >> 1)
}

// keysOf returns n keys of all lengths and with all kinds of bytes.
func keysOf(n int) []string {
	l := []string{"a", "aa", "B", "\x00", "\xff", "é", "a b", strings.Repeat("k", 32), strings.Repeat("\xff", 32)}
	for i := len(l); i < n; i++ {
		l = append(l, "k"+strconv.Itoa(i))
	}
	return l[:n]
}

// sumOf returns a valid summary with counts and errors of all sizes, some of
// the counts equal.
func sumOf(size, length, start int) api.Top {
	var entries []api.Entry
	for i, key := range keysOf(length) {
		place := start + i/2
		count := 1 + word(place)%mostTotal>>(place%41)
		entries = append(entries, api.Entry{Key: key, Count: count, Error: word(start-i) % count})
	}
	return topOf(size, word(start)%(mostTotal+1), ordered(entries)...)
}

func badSummaries() []api.Top {
	a, b := api.Entry{Key: "a", Count: 2}, api.Entry{Key: "b", Count: 2}
	return []api.Top{
		{},
		saturated(api.Top{}),
		topOf(0, 0, a),
		topOf(-1, 0),
		topOf(33, 0),
		topOf(33, 9, a, b),
		topOf(1, -1),
		topOf(1, mostTotal+1, a),
		topOf(1, 9, a, b),
		topOf(2, 9, a, api.Entry{Count: 1}),
		topOf(2, 9, a, api.Entry{Key: "b"}),
		topOf(2, 9, api.Entry{Key: "a", Count: 2, Error: 2}, api.Entry{Key: "b", Count: 1}),
		topOf(3, 9, a, b, api.Entry{Key: "a", Count: 1}),
		topOf(2, 9, b, a),
	}
}

func TestNew(t *testing.T) {
	for _, size := range append(edges(), 4, 8, 16, 30) {
		s, e := New(size)
		if size < 1 || size > mostSize {
			if e != api.ErrRange || !isZero(s) {
				t.Errorf("New(%d) = %v, %d", size, s, e)
			}
			continue
		}
		if e != api.OK || !same(s, api.Top{Size: size}) || Validate(s) != api.OK {
			t.Errorf("New(%d) = %v, %d", size, s, e)
		}
	}
}

func TestValidate(t *testing.T) {
	long := strings.Repeat("k", 33)
	a, b, c := api.Entry{Key: "a", Count: 2}, api.Entry{Key: "b", Count: 2}, api.Entry{Key: "c", Count: 1}
	for _, x := range []struct {
		t    api.Top
		want api.Errno
	}{
		{topOf(1, 0), api.OK},
		{topOf(32, mostTotal), api.OK},
		{topOf(1, 0, a), api.OK},
		{topOf(3, 5, a, b, c), api.OK},
		{topOf(4, 5, a, b, c), api.OK},
		{topOf(2, 5, api.Entry{Key: "b", Count: 3, Error: 2}, api.Entry{Key: "a", Count: 1}), api.OK},
		{topOf(2, 0, api.Entry{Key: "a", Count: 1}, api.Entry{Key: "aa", Count: 1}), api.OK},
		// Bytes are compared, not letters or runes.
		{topOf(2, 0, api.Entry{Key: "Z", Count: 1}, api.Entry{Key: "a", Count: 1}), api.OK},
		{topOf(2, 0, api.Entry{Key: "é", Count: 1}, api.Entry{Key: "\xff", Count: 1}), api.OK},
		{topOf(2, 0, api.Entry{Key: "\x7f", Count: 1}, api.Entry{Key: "\x80", Count: 1}), api.OK},
		{topOf(0, 0), api.ErrRange},
		{topOf(33, 0), api.ErrRange},
		{topOf(1, -1), api.ErrRange},
		{topOf(1, mostTotal+1), api.ErrRange},
		// The parameters come before the number of entries, and this number
		// before the entries.
		{topOf(0, 0, a), api.ErrRange},
		{topOf(1, -1, a, b), api.ErrRange},
		{topOf(1, mostTotal+1, a, b), api.ErrRange},
		{topOf(math.MinInt, 0, make([]api.Entry, 40)...), api.ErrRange},
		{topOf(1, 0, a, b), api.ErrTooLarge},
		{topOf(2, 0, api.Entry{}, api.Entry{}, api.Entry{}), api.ErrTooLarge},
		{topOf(2, 0, a, a, a), api.ErrTooLarge},
		{topOf(32, 0, make([]api.Entry, 33)...), api.ErrTooLarge},
		{topOf(32, 0, make([]api.Entry, 32)...), api.ErrKey},
		{topOf(1, 0, api.Entry{Count: 1}), api.ErrKey},
		{topOf(1, 0, api.Entry{Key: long, Count: 1}), api.ErrKey},
		{topOf(1, 0, api.Entry{Key: long}), api.ErrKey},
		{topOf(1, 0, api.Entry{Error: -1}), api.ErrKey},
		{topOf(2, 0, api.Entry{Count: 1}, api.Entry{Count: 1}), api.ErrKey},
		// For one entry: the range, an equal key, the order.
		{topOf(2, 0, a, api.Entry{Key: "a"}), api.ErrRange},
		{topOf(2, 0, a, api.Entry{Key: "a", Count: 3, Error: 3}), api.ErrRange},
		{topOf(2, 0, a, api.Entry{Key: "b", Count: 3, Error: 3}), api.ErrRange},
		{topOf(2, 0, a, a), api.ErrDuplicate},
		{topOf(2, 0, a, api.Entry{Key: "a", Count: 1}), api.ErrDuplicate},
		{topOf(2, 0, a, api.Entry{Key: "a", Count: 3}), api.ErrDuplicate},
		{topOf(2, 0, a, api.Entry{Key: "a", Count: 2, Error: 1}), api.ErrDuplicate},
		{topOf(3, 0, a, b, a), api.ErrDuplicate},
		{topOf(3, 0, a, b, api.Entry{Key: "a", Count: 1}), api.ErrDuplicate},
		{topOf(2, 0, b, a), api.ErrOrder},
		{topOf(2, 0, c, a), api.ErrOrder},
		{topOf(3, 0, a, c, b), api.ErrOrder},
		{topOf(2, 0, api.Entry{Key: "b", Count: 1}, api.Entry{Key: "c", Count: 2}), api.ErrOrder},
		{topOf(2, 0, api.Entry{Key: "aa", Count: 1}, api.Entry{Key: "a", Count: 1}), api.ErrOrder},
		{topOf(2, 0, api.Entry{Key: "a", Count: 1}, api.Entry{Key: "Z", Count: 1}), api.ErrOrder},
		{topOf(2, 0, api.Entry{Key: "\xff", Count: 1}, api.Entry{Key: "é", Count: 1}), api.ErrOrder},
		{topOf(2, 0, api.Entry{Key: "b", Count: 9}, api.Entry{Key: "a", Count: 9, Error: 8}), api.ErrOrder},
		// The first faulty entry counts.
		{topOf(3, 0, b, a, api.Entry{}), api.ErrOrder},
		{topOf(3, 0, a, a, api.Entry{}), api.ErrDuplicate},
		{topOf(3, 0, api.Entry{Key: "a"}, api.Entry{}, b), api.ErrRange},
		{topOf(3, 0, api.Entry{}, api.Entry{Key: "a"}, b), api.ErrKey},
		{topOf(3, 0, b, a, b), api.ErrOrder},
		{topOf(3, 0, a, a, b), api.ErrDuplicate},
	} {
		for _, s := range []api.Top{x.t, saturated(x.t)} {
			if e := Validate(s); e != x.want {
				t.Errorf("Validate(%v) = %d; want %d", s, e, x.want)
			}
		}
	}
}

func TestValidateOfEachNumber(t *testing.T) {
	for _, n := range edges() {
		for _, x := range []struct {
			t    api.Top
			good bool
		}{
			{topOf(n, 0), n >= 1 && n <= mostSize},
			{topOf(1, n), n >= 0 && n <= mostTotal},
			{topOf(3, 7, api.Entry{Key: "a", Count: n}), n >= 1 && n <= mostTotal},
			{topOf(3, 7, api.Entry{Key: "a", Count: mostTotal, Error: n}), n >= 0 && n < mostTotal},
			{topOf(3, 7, api.Entry{Key: "a", Count: 248, Error: n}), n >= 0 && n < 248},
			{topOf(3, 7, api.Entry{Key: "a", Count: 1, Error: n}), n == 0},
		} {
			want := api.ErrRange
			if x.good {
				want = api.OK
			}
			if e := Validate(x.t); e != want {
				t.Errorf("Validate(%v) = %d; want %d", x.t, e, want)
			}
		}
	}
}

func TestValidateOfEachEntry(t *testing.T) {
	good := api.Top{Size: mostSize}
	for i := range mostSize {
		good.Entries = append(good.Entries, api.Entry{Key: keysOf(32)[i], Count: 100 - i, Error: i})
	}
	for i, old := range good.Entries {
		for _, x := range []struct {
			entry api.Entry
			want  api.Errno
		}{
			{old, api.OK},
			{api.Entry{Count: old.Count}, api.ErrKey},
			{api.Entry{Key: old.Key, Count: 0}, api.ErrRange},
			{api.Entry{Key: old.Key, Count: old.Count, Error: old.Count}, api.ErrRange},
			{api.Entry{Key: old.Key, Count: mostTotal + 1}, api.ErrRange},
			{api.Entry{Key: good.Entries[(i+31)%32].Key, Count: old.Count}, api.ErrDuplicate},
			{api.Entry{Key: good.Entries[(i+9)%32].Key, Count: old.Count}, api.ErrDuplicate},
			{api.Entry{Key: old.Key, Count: 150}, api.ErrOrder},
			{api.Entry{Key: old.Key, Count: 50}, api.ErrOrder},
		} {
			want := x.want
			if i == 0 && x.entry.Count == 150 || i == mostSize-1 && x.entry.Count == 50 {
				want = api.OK
			}
			good.Entries[i] = x.entry
			if e := Validate(good); e != want {
				t.Errorf("Validate with %v as entry %d = %d; want %d", x.entry, i, e, want)
			}
		}
		good.Entries[i] = old
	}
}

func TestLeast(t *testing.T) {
	a, b := api.Entry{Key: "a", Count: 7, Error: 3}, api.Entry{Key: "b", Count: 4, Error: 1}
	for _, x := range []struct {
		t    api.Top
		want int
	}{
		{topOf(1, 0), 0},
		{topOf(1, 7, a), 7},
		{topOf(2, 7, a), 0},
		{topOf(2, 11, a, b), 4},
		{topOf(3, 11, a, b), 0},
		{topOf(32, 11, a, b), 0},
		{topOf(1, 9, api.Entry{Key: "x", Count: mostTotal}), mostTotal},
		{saturated(topOf(2, 11, a, b)), 4},
		// Invalid summaries.
		{api.Top{}, 0},
		{saturated(api.Top{}), 0},
		{topOf(0, 5), 0},
		{topOf(-1, 5), 0},
		{topOf(33, -5), 0},
		{topOf(math.MinInt, 0), 0},
		{topOf(math.MaxInt, 0), 0},
		{topOf(0, 5, a), 0},
		{topOf(-1, 5, a), 0},
		{topOf(math.MaxInt, 5, a), 0},
		{topOf(2, 0, b, a), 7},
		{topOf(1, -3, b), 4},
	} {
		if n := Least(x.t); n != x.want {
			t.Errorf("Least(%v) = %d; want %d", x.t, n, x.want)
		}
	}
	for size := 1; size <= mostSize; size++ {
		for length := range size + 1 {
			s := sumOf(size, length, length)
			want := 0
			if length == size {
				want = s.Entries[size-1].Count
			}
			if n := Least(s); n != want {
				t.Errorf("Least(%v) = %d; want %d", s, n, want)
			}
		}
	}
}

func TestInsert(t *testing.T) {
	s, _ := New(2)
	for _, x := range []struct {
		item api.Item
		want api.Top
	}{
		{api.Item{Key: "b", Weight: 3}, topOf(2, 3, api.Entry{Key: "b", Count: 3})},
		{api.Item{Key: "c", Weight: 3}, topOf(2, 6, api.Entry{Key: "b", Count: 3}, api.Entry{Key: "c", Count: 3})},
		// The last entry is replaced, although both counts are equal.
		{api.Item{Key: "a", Weight: 1}, topOf(2, 7, api.Entry{Key: "a", Count: 4, Error: 3}, api.Entry{Key: "b", Count: 3})},
		{api.Item{Key: "b", Weight: 1}, topOf(2, 8, api.Entry{Key: "a", Count: 4, Error: 3}, api.Entry{Key: "b", Count: 4})},
		{api.Item{Key: "b", Weight: 2}, topOf(2, 10, api.Entry{Key: "b", Count: 6}, api.Entry{Key: "a", Count: 4, Error: 3})},
		{api.Item{Key: "a", Weight: 1}, topOf(2, 11, api.Entry{Key: "b", Count: 6}, api.Entry{Key: "a", Count: 5, Error: 3})},
		// A key that comes back has lost its count and its error.
		{api.Item{Key: "c", Weight: 1}, topOf(2, 12, api.Entry{Key: "b", Count: 6}, api.Entry{Key: "c", Count: 6, Error: 5})},
		{api.Item{Key: "a", Weight: 1}, topOf(2, 13, api.Entry{Key: "a", Count: 7, Error: 6}, api.Entry{Key: "b", Count: 6})},
		{api.Item{Key: "d", Weight: mostOf}, topOf(2, mostOf+13, api.Entry{Key: "d", Count: mostOf + 6, Error: 6}, api.Entry{Key: "a", Count: 7, Error: 6})},
	} {
		var e api.Errno
		if s, e = Insert(s, x.item); e != api.OK || !same(s, x.want) {
			t.Fatalf("after %v: %v, %d; want %v", x.item, s, e, x.want)
		}
	}
}

func TestExample(t *testing.T) {
	s := after(t, 1, api.Item{Key: "a", Weight: 2}, api.Item{Key: "b", Weight: 1})
	if !same(s, topOf(1, 3, api.Entry{Key: "b", Count: 3, Error: 2})) {
		t.Errorf("the summary is %v", s)
	}
	if x, monitored, e := Find(s, "a"); x != (api.Entry{Key: "a", Count: 3, Error: 3}) || monitored || e != api.OK {
		t.Errorf("Find = %v, %t, %d", x, monitored, e)
	}
}

// Entries with equal counts are in the bytewise order of their keys, in which
// order they came.
func TestTies(t *testing.T) {
	keys := []string{"\x00", "0", "A", "Z", "a", "aa", "ab", "b", "\x7f", "é", "日", "\xff", "\xff\x00"}
	for turn := range keys {
		var items []api.Item
		var want []api.Entry
		for i, key := range keys {
			items = append(items, api.Item{Key: keys[(i*5+turn)%len(keys)], Weight: 4})
			want = append(want, api.Entry{Key: key, Count: 4})
		}
		if s := after(t, len(keys), items...); !same(s, topOf(len(keys), 4*len(keys), want...)) {
			t.Errorf("the items %v become %v", items, s)
		}
	}
}

func TestInsertOfEachWeight(t *testing.T) {
	for _, size := range []int{1, 2, 3, 9, 32} {
		for length := range size + 1 {
			s := sumOf(size, length, 3*length+size)
			for _, key := range append(keysOf(length), "new", "0", "\xff\xff") {
				for _, weight := range edges() {
					item := api.Item{Key: key, Weight: weight}
					want, wantError := api.Top{}, api.ErrRange
					if weight >= 1 && weight <= mostOf {
						want, wantError = inserted(s, item), api.OK
					}
					if d, e := Insert(s, item); e != wantError || !same(d, want) {
						t.Errorf("Insert(%v, %v) = %v, %d; want %v, %d", s, item, d, e, want, wantError)
					}
				}
			}
		}
	}
}

func TestManyInsertions(t *testing.T) {
	for size := 1; size <= mostSize; size++ {
		s, _ := New(size)
		for i := range 300 {
			n := word(i + 1000*size)
			item := api.Item{Key: keysOf(50)[n%50*(n/50%50)/50], Weight: 1 + n>>20%7}
			want := inserted(s, item)
			d, e := Insert(s, item)
			if e != api.OK || !same(d, want) || Validate(d) != api.OK {
				t.Fatalf("Insert(%v, %v) = %v, %d; want %v", s, item, d, e, want)
			}
			s = d
		}
	}
}

func TestSaturationOfInsert(t *testing.T) {
	for _, x := range []struct {
		before api.Top
		item   api.Item
		want   api.Top
	}{
		// Only the total.
		{topOf(1, mostTotal-1), api.Item{Key: "a", Weight: 1}, topOf(1, mostTotal, api.Entry{Key: "a", Count: 1})},
		{topOf(1, mostTotal-1), api.Item{Key: "a", Weight: 2}, saturated(topOf(1, mostTotal, api.Entry{Key: "a", Count: 2}))},
		{topOf(1, mostTotal), api.Item{Key: "a", Weight: mostOf}, saturated(topOf(1, mostTotal, api.Entry{Key: "a", Count: mostOf}))},
		// Only the count of a key that has an entry.
		{
			topOf(2, 5, api.Entry{Key: "b", Count: mostTotal - 2, Error: mostTotal - 3}), api.Item{Key: "b", Weight: 2},
			topOf(2, 7, api.Entry{Key: "b", Count: mostTotal, Error: mostTotal - 3}),
		},
		{
			topOf(2, 5, api.Entry{Key: "b", Count: mostTotal - 2, Error: mostTotal - 3}), api.Item{Key: "b", Weight: 3},
			saturated(topOf(2, 8, api.Entry{Key: "b", Count: mostTotal, Error: mostTotal - 3})),
		},
		{
			topOf(2, 5, api.Entry{Key: "b", Count: mostTotal, Error: mostTotal - 1}), api.Item{Key: "b", Weight: 1},
			saturated(topOf(2, 6, api.Entry{Key: "b", Count: mostTotal, Error: mostTotal - 1})),
		},
		// Only the count of a key that replaces another one.
		{
			topOf(1, 5, api.Entry{Key: "b", Count: mostTotal - 2}), api.Item{Key: "a", Weight: 2},
			topOf(1, 7, api.Entry{Key: "a", Count: mostTotal, Error: mostTotal - 2}),
		},
		{
			topOf(1, 5, api.Entry{Key: "b", Count: mostTotal - 2}), api.Item{Key: "a", Weight: 3},
			saturated(topOf(1, 8, api.Entry{Key: "a", Count: mostTotal, Error: mostTotal - 2})),
		},
		{
			topOf(1, 5, api.Entry{Key: "b", Count: mostTotal - 1}), api.Item{Key: "a", Weight: 2},
			saturated(topOf(1, 7, api.Entry{Key: "a", Count: mostTotal, Error: mostTotal - 1})),
		},
		// The error would not be below the count.
		{
			topOf(1, 5, api.Entry{Key: "b", Count: mostTotal}), api.Item{Key: "a", Weight: 1},
			saturated(topOf(1, 6, api.Entry{Key: "a", Count: mostTotal, Error: mostTotal - 1})),
		},
		{
			topOf(1, 5, api.Entry{Key: "b", Count: mostTotal}), api.Item{Key: "a", Weight: mostOf},
			saturated(topOf(1, mostOf+5, api.Entry{Key: "a", Count: mostTotal, Error: mostTotal - 1})),
		},
		// A limited count can change the order.
		{
			topOf(2, 5, api.Entry{Key: "b", Count: mostTotal}, api.Entry{Key: "c", Count: mostTotal - 1}), api.Item{Key: "a", Weight: 2},
			saturated(topOf(2, 7, api.Entry{Key: "a", Count: mostTotal, Error: mostTotal - 1}, api.Entry{Key: "b", Count: mostTotal})),
		},
		{
			topOf(2, 5, api.Entry{Key: "b", Count: mostTotal}, api.Entry{Key: "c", Count: mostTotal - 1}), api.Item{Key: "c", Weight: 2},
			saturated(topOf(2, 7, api.Entry{Key: "b", Count: mostTotal}, api.Entry{Key: "c", Count: mostTotal})),
		},
		// A full count of another key is no reason, and a flag is kept.
		{
			topOf(3, 5, api.Entry{Key: "b", Count: mostTotal}), api.Item{Key: "a", Weight: 1},
			topOf(3, 6, api.Entry{Key: "b", Count: mostTotal}, api.Entry{Key: "a", Count: 1}),
		},
		{saturated(topOf(1, 5)), api.Item{Key: "a", Weight: 1}, saturated(topOf(1, 6, api.Entry{Key: "a", Count: 1}))},
	} {
		if s, e := Insert(x.before, x.item); e != api.OK || !same(s, x.want) || Validate(s) != api.OK {
			t.Errorf("Insert(%v, %v) = %v, %d; want %v", x.before, x.item, s, e, x.want)
		}
	}
}

func TestErrorsOfInsert(t *testing.T) {
	good := sumOf(4, 3, 7)
	large := topOf(1, 0, api.Entry{Key: "a", Count: 1}, api.Entry{Key: "b", Count: 1})
	long := strings.Repeat("k", 33)
	for _, x := range []struct {
		t    api.Top
		item api.Item
		want api.Errno
	}{
		{good, api.Item{}, api.ErrKey},
		{good, api.Item{Weight: 1}, api.ErrKey},
		{good, api.Item{Key: long, Weight: 1}, api.ErrKey},
		{good, api.Item{Key: long, Weight: -1}, api.ErrKey},
		{good, api.Item{Key: "a"}, api.ErrRange},
		{good, api.Item{Key: "a", Weight: -1}, api.ErrRange},
		{good, api.Item{Key: "a", Weight: mostOf + 1}, api.ErrRange},
		{large, api.Item{Key: "a", Weight: 1}, api.ErrTooLarge},
		{large, api.Item{}, api.ErrTooLarge},
		{large, api.Item{Key: "a"}, api.ErrTooLarge},
		{api.Top{}, api.Item{Key: "a", Weight: 1}, api.ErrRange},
		{api.Top{}, api.Item{}, api.ErrRange},
	} {
		if d, e := Insert(x.t, x.item); e != x.want || !isZero(d) {
			t.Errorf("Insert(%v, %v) = %v, %d; want error %d", x.t, x.item, d, e, x.want)
		}
	}
	for _, bad := range badSummaries() {
		for _, item := range []api.Item{{}, {Key: "a", Weight: 1}, {Key: "z", Weight: 1}, {Key: "a"}} {
			if d, e := Insert(bad, item); e != Validate(bad) || e == api.OK || !isZero(d) {
				t.Errorf("Insert(%v, %v) = %v, %d", bad, item, d, e)
			}
		}
	}
}

func TestMerge(t *testing.T) {
	x5, y3 := api.Entry{Key: "x", Count: 5, Error: 1}, api.Entry{Key: "y", Count: 3, Error: 2}
	y2, z1 := api.Entry{Key: "y", Count: 2, Error: 1}, api.Entry{Key: "z", Count: 1}
	for _, x := range []struct {
		a, b, want api.Top
	}{
		{topOf(2, 0), topOf(2, 0), topOf(2, 0)},
		{topOf(2, 9, x5, y3), topOf(2, 0), topOf(2, 9, x5, y3)},
		// There is room in both: a missing key has no weight.
		{
			topOf(4, 9, x5, y3), topOf(4, 4, y2, z1),
			topOf(4, 13, x5, api.Entry{Key: "y", Count: 5, Error: 3}, z1),
		},
		// Only the second one is full.
		{
			topOf(2, 9, x5), topOf(2, 4, y2, z1),
			topOf(2, 13, api.Entry{Key: "x", Count: 6, Error: 2}, y2),
		},
		// Only the first one is full.
		{
			topOf(2, 9, x5, y3), topOf(2, 4, z1),
			topOf(2, 13, x5, api.Entry{Key: "z", Count: 4, Error: 3}),
		},
		// Both are full; z has 1 + 3.
		{
			topOf(2, 9, x5, y3), topOf(2, 4, y2, z1),
			topOf(2, 13, api.Entry{Key: "x", Count: 6, Error: 2}, api.Entry{Key: "y", Count: 5, Error: 3}),
		},
		// Both are full and have no key in common.
		{
			topOf(1, 9, x5), topOf(1, 4, z1),
			topOf(1, 13, api.Entry{Key: "x", Count: 6, Error: 2}),
		},
		{
			topOf(1, 9, y3), topOf(1, 8, api.Entry{Key: "e", Count: 7}),
			topOf(1, 17, api.Entry{Key: "e", Count: 10, Error: 3}),
		},
		{
			topOf(2, 11, api.Entry{Key: "a", Count: 6}, api.Entry{Key: "d", Count: 5}),
			topOf(2, 11, api.Entry{Key: "b", Count: 6}, api.Entry{Key: "c", Count: 5}),
			topOf(2, 22, api.Entry{Key: "a", Count: 11, Error: 5}, api.Entry{Key: "b", Count: 11, Error: 5}),
		},
		// The same keys, in another order.
		{
			topOf(2, 8, api.Entry{Key: "q", Count: 5, Error: 4}, api.Entry{Key: "p", Count: 3}),
			topOf(2, 10, api.Entry{Key: "p", Count: 8, Error: 1}, api.Entry{Key: "q", Count: 2, Error: 1}),
			topOf(2, 18, api.Entry{Key: "p", Count: 11, Error: 1}, api.Entry{Key: "q", Count: 7, Error: 5}),
		},
	} {
		for _, s := range [][3]api.Top{
			{x.a, x.b, x.want},
			{saturated(x.a), x.b, saturated(x.want)},
			{x.a, saturated(x.b), saturated(x.want)},
			{saturated(x.a), saturated(x.b), saturated(x.want)},
		} {
			checkMerge(t, s[0], s[1], s[2])
		}
	}
}

// checkMerge merges in both orders.
func checkMerge(t *testing.T, a, b, want api.Top) {
	t.Helper()
	if s, e := Merge(a, b); e != api.OK || !same(s, want) || Validate(s) != api.OK {
		t.Errorf("Merge(%v, %v) = %v, %d; want %v", a, b, s, e, want)
	}
	if s, e := Merge(b, a); e != api.OK || !same(s, want) {
		t.Errorf("Merge(%v, %v) = %v, %d; want %v", b, a, s, e, want)
	}
}

func TestMergeOfEachSize(t *testing.T) {
	for size := 1; size <= mostSize; size++ {
		for i := range size + 1 {
			for _, j := range []int{0, 1, size / 2, size - 1, size} {
				a, b := sumOf(size, i, i+size), sumOf(size, j, 7*j)
				checkMerge(t, a, b, merged(a, b))
				// Now most of the keys differ.
				for k := range b.Entries {
					b.Entries[k].Key = strings.Replace(b.Entries[k].Key, "k1", "m1", 1)
				}
				b.Entries = ordered(b.Entries)
				checkMerge(t, a, b, merged(a, b))
			}
			a := sumOf(size, i, 5*i)
			checkMerge(t, a, a, merged(a, a))
			checkMerge(t, a, topOf(size, 0), a)
		}
	}
}

func TestSaturationOfMerge(t *testing.T) {
	entry := func(key string, count, excess int) api.Entry {
		return api.Entry{Key: key, Count: count, Error: excess}
	}
	const most, half = mostTotal, mostTotal / 2
	for _, x := range []struct {
		a, b, want api.Top
	}{
		// Only the total.
		{topOf(2, half), topOf(2, half), topOf(2, most)},
		{topOf(2, half+1), topOf(2, half), saturated(topOf(2, most))},
		{topOf(2, most), topOf(2, most), saturated(topOf(2, most))},
		{topOf(2, most), topOf(2, 0), topOf(2, most)},
		// Only a count of both.
		{topOf(2, 1, entry("a", half, 1)), topOf(2, 1, entry("a", half, 2)), topOf(2, 2, entry("a", most, 3))},
		{topOf(2, 1, entry("a", half, 1)), topOf(2, 1, entry("a", half+1, 2)), saturated(topOf(2, 2, entry("a", most, 3)))},
		// The error would not be below the count.
		{
			topOf(2, 1, entry("a", half, half-1)), topOf(2, 1, entry("a", half+1, half)),
			saturated(topOf(2, 2, entry("a", most, most-1))),
		},
		{
			topOf(2, 1, entry("a", half+1, half)), topOf(2, 1, entry("a", half+1, half)),
			saturated(topOf(2, 2, entry("a", most, most-1))),
		},
		{
			topOf(2, 1, entry("a", most, most-1)), topOf(2, 1, entry("a", most, most-1)),
			saturated(topOf(2, 2, entry("a", most, most-1))),
		},
		// A missing count and a missing error.
		{
			topOf(1, 1, entry("a", half, half-1)), topOf(1, 1, entry("b", half, 5)),
			topOf(1, 2, entry("a", most, most-1)),
		},
		{
			topOf(1, 1, entry("a", half, half-1)), topOf(1, 1, entry("b", half+1, 5)),
			saturated(topOf(1, 2, entry("a", most, most-1))),
		},
		{
			topOf(1, 1, entry("b", 5, 4)), topOf(1, 1, entry("a", most, 1)),
			saturated(topOf(1, 2, entry("a", most, 6))),
		},
		// Limited counts are equal and ordered by their keys.
		{
			topOf(2, 1, entry("b", most, 1), entry("a", most-1, 1)), topOf(2, 1, entry("b", 9, 2), entry("a", 7, 2)),
			saturated(topOf(2, 2, entry("a", most, 3), entry("b", most, 3))),
		},
		// A full count and a missing one that is 0.
		{topOf(1, 1), topOf(1, 1, entry("z", most, 0)), topOf(1, 2, entry("z", most, 0))},
		// The sum that is too large belongs to z, which is left out.
		{
			topOf(2, 1, entry("z", half+9, 0), entry("y", half, 0)),
			topOf(2, 1, entry("a", half, 0), entry("b", half, 0)),
			saturated(topOf(2, 2, entry("a", most, half), entry("b", most, half))),
		},
	} {
		checkMerge(t, x.a, x.b, x.want)
	}
}

func TestErrorsOfMerge(t *testing.T) {
	good := sumOf(3, 2, 5)
	large := topOf(1, 0, api.Entry{Key: "a", Count: 1}, api.Entry{Key: "b", Count: 1})
	order := topOf(2, 0, api.Entry{Key: "b", Count: 1}, api.Entry{Key: "a", Count: 1})
	for _, x := range []struct {
		a, b api.Top
		want api.Errno
	}{
		{good, large, api.ErrTooLarge},
		{large, good, api.ErrTooLarge},
		{large, order, api.ErrTooLarge},
		{order, large, api.ErrOrder},
		// Invalid summaries come before different sizes.
		{good, order, api.ErrOrder},
		{order, good, api.ErrOrder},
		{good, api.Top{}, api.ErrRange},
		{api.Top{}, api.Top{}, api.ErrRange},
		{good, sumOf(2, 2, 5), api.ErrKind},
		{good, sumOf(4, 2, 5), api.ErrKind},
		{good, topOf(32, 0), api.ErrKind},
		{topOf(1, 0), topOf(2, 0), api.ErrKind},
		{topOf(2, 0), topOf(1, 0), api.ErrKind},
	} {
		if s, e := Merge(x.a, x.b); e != x.want || !isZero(s) {
			t.Errorf("Merge(%v, %v) = %v, %d; want error %d", x.a, x.b, s, e, x.want)
		}
	}
	for _, bad := range badSummaries() {
		if s, e := Merge(good, bad); e != Validate(bad) || e == api.OK || !isZero(s) {
			t.Errorf("Merge(%v, %v) = %v, %d", good, bad, s, e)
		}
		if s, e := Merge(bad, good); e != Validate(bad) || e == api.OK || !isZero(s) {
			t.Errorf("Merge(%v, %v) = %v, %d", bad, good, s, e)
		}
	}
}

func TestFind(t *testing.T) {
	for size := 1; size <= mostSize; size++ {
		for length := range size + 1 {
			for _, s := range []api.Top{sumOf(size, length, length+1), saturated(sumOf(size, length, 9))} {
				for _, key := range append(keysOf(mostSize), "other", "A", "\x00\x00", strings.Repeat("k", 31)) {
					want, found := foundIn(s, key)
					if x, monitored, e := Find(s, key); x != want || monitored != found || e != api.OK {
						t.Errorf("Find(%v, %q) = %v, %t, %d; want %v, %t", s, key, x, monitored, e, want, found)
					}
				}
			}
		}
	}
}

func TestFindOfExamples(t *testing.T) {
	b, a := api.Entry{Key: "b", Count: 9, Error: 8}, api.Entry{Key: "a", Count: 4, Error: 1}
	for _, x := range []struct {
		t         api.Top
		key       string
		want      api.Entry
		monitored bool
	}{
		{topOf(2, 13, b, a), "b", b, true},
		{topOf(2, 13, b, a), "a", a, true},
		{topOf(2, 13, b, a), "c", api.Entry{Key: "c", Count: 4, Error: 4}, false},
		{topOf(3, 13, b, a), "a", a, true},
		{topOf(3, 13, b, a), "c", api.Entry{Key: "c"}, false},
		{topOf(3, 0), "a", api.Entry{Key: "a"}, false},
		{topOf(1, 0, api.Entry{Key: "a", Count: mostTotal}), "c", api.Entry{Key: "c", Count: mostTotal, Error: mostTotal}, false},
	} {
		if y, monitored, e := Find(x.t, x.key); y != x.want || monitored != x.monitored || e != api.OK {
			t.Errorf("Find(%v, %q) = %v, %t, %d; want %v, %t", x.t, x.key, y, monitored, e, x.want, x.monitored)
		}
	}
}

func TestErrorsOfFind(t *testing.T) {
	long := strings.Repeat("k", 33)
	for _, s := range []api.Top{topOf(1, 0), sumOf(3, 3, 4), sumOf(3, 2, 4)} {
		for _, key := range []string{"", long, strings.Repeat("k", 1000)} {
			if x, monitored, e := Find(s, key); x != (api.Entry{}) || monitored || e != api.ErrKey {
				t.Errorf("Find(%v, %q) = %v, %t, %d", s, key, x, monitored, e)
			}
		}
	}
	for _, bad := range badSummaries() {
		for _, key := range []string{"a", "z", "", long} {
			if x, monitored, e := Find(bad, key); x != (api.Entry{}) || monitored || e != Validate(bad) || e == api.OK {
				t.Errorf("Find(%v, %q) = %v, %t, %d", bad, key, x, monitored, e)
			}
		}
	}
}

// counted is a summary with the exact weights of its keys.
type counted struct {
	t       api.Top
	weights map[string]int
}

func (c counted) insert(t *testing.T, x api.Item) counted {
	t.Helper()
	s, e := Insert(c.t, x)
	if e != api.OK {
		t.Fatalf("Insert(%v, %v): error %d", c.t, x, e)
	}
	return counted{s, c.plus(map[string]int{x.Key: x.Weight})}
}

func (c counted) merge(t *testing.T, d counted) counted {
	t.Helper()
	s, e := Merge(c.t, d.t)
	if e != api.OK {
		t.Fatalf("Merge(%v, %v): error %d", c.t, d.t, e)
	}
	return counted{s, c.plus(d.weights)}
}

func (c counted) plus(weights map[string]int) map[string]int {
	sum := make(map[string]int)
	for _, l := range []map[string]int{c.weights, weights} {
		for key, n := range l {
			sum[key] += n
		}
	}
	return sum
}

// check checks P9.6 for the keys and one that was never inserted.
func (c counted) check(t *testing.T, keys []string) {
	t.Helper()
	total, counts := 0, 0
	for _, n := range c.weights {
		total += n
	}
	for _, x := range c.t.Entries {
		counts += x.Count
	}
	least := Least(c.t)
	if Validate(c.t) != api.OK || c.t.Saturated || c.t.Total != total || counts > total || least > total/c.t.Size {
		t.Errorf("%v has total %d and the counts %d", c.t, total, counts)
	}
	for _, key := range append(slices.Clone(keys), "never") {
		x, _, e := Find(c.t, key)
		f := c.weights[key]
		if e != api.OK || x.Key != key || x.Count-x.Error > f || x.Count < f || x.Error > total/c.t.Size {
			t.Errorf("Find(%v, %q) = %v, %d; the weight is %d", c.t, key, x, e, f)
		}
	}
}

// All short sequences are inserted, each one also in two parts that are merged.
func TestBoundsOfShortSequences(t *testing.T) {
	keys := []string{"a", "b", "c"}
	weights := []int{1, 3}
	kinds := len(keys) * len(weights)
	for size := 1; size <= 3; size++ {
		for length, n := 0, 1; length <= 4; length, n = length+1, n*kinds {
			for code := range n {
				for split := range length + 1 {
					left, right := counted{t: api.Top{Size: size}}, counted{t: api.Top{Size: size}}
					for i, rest := 0, code; i < length; i, rest = i+1, rest/kinds {
						item := api.Item{Key: keys[rest%len(keys)], Weight: weights[rest%kinds/len(keys)]}
						if i < split {
							left = left.insert(t, item)
						} else {
							right = right.insert(t, item)
						}
					}
					left.check(t, keys)
					left.merge(t, right).check(t, keys)
					right.merge(t, left).merge(t, left).check(t, keys)
				}
			}
		}
	}
}

func TestBoundsOfLongSequences(t *testing.T) {
	keys := keysOf(60)
	for size := 1; size <= mostSize; size++ {
		l := make([]counted, 4)
		for i := range l {
			l[i].t.Size = size
		}
		for i := range 200 {
			n := word(i + 500*size)
			at, other := n%4, n/4%4
			item := api.Item{Key: keys[n>>8%60*(n>>16%60)/60], Weight: 1 + n>>24%(1<<(n>>32%20))}
			l[at] = l[at].insert(t, item)
			// Now and then one part is merged into another one, and begins anew.
			if other != at && n>>40%8 == 0 {
				l[at] = l[at].merge(t, l[other])
				l[other] = counted{t: api.Top{Size: size}}
			}
			l[at].check(t, keys)
		}
		l[0].merge(t, l[1]).merge(t, l[2].merge(t, l[3])).check(t, keys)
	}
}

func TestEncode(t *testing.T) {
	for _, x := range []struct {
		t    api.Top
		want []byte
	}{
		{topOf(1, 0), []byte{1, 0, 0, 0}},
		{saturated(topOf(32, 247)), []byte{32, 247, 1, 0}},
		{topOf(2, 248, api.Entry{Key: "a", Count: 1}), []byte{2, 248, 248, 0, 1, 1, 'a', 1, 0}},
		{
			saturated(topOf(3, mostTotal, api.Entry{Key: "z\x00", Count: 256, Error: 255}, api.Entry{Key: "\xff", Count: 9, Error: 4})),
			[]byte{3, 253, 1, 0, 0, 0, 0, 0, 1, 2, 2, 'z', 0, 249, 1, 0, 248, 255, 1, 255, 9, 4},
		},
		{
			topOf(1, 7, api.Entry{Key: "k", Count: mostTotal, Error: mostTotal - 1}),
			[]byte{1, 7, 0, 1, 1, 'k', 253, 1, 0, 0, 0, 0, 0, 252, 255, 255, 255, 255, 255},
		},
	} {
		checkCode(t, x.t, x.want)
	}
	for _, bad := range badSummaries() {
		if b, e := Encode(bad); e != Validate(bad) || e == api.OK || len(b) > 0 {
			t.Errorf("Encode(%v) = %v, %d", bad, b, e)
		}
	}
}

func TestEncodeOfEachSize(t *testing.T) {
	for size := 1; size <= mostSize; size++ {
		for length := range size + 1 {
			for i := range 4 {
				s := sumOf(size, length, i*length+size)
				checkCode(t, s, joined(s))
				checkCode(t, saturated(s), joined(saturated(s)))
			}
		}
	}
}

func checkCode(t *testing.T, s api.Top, want []byte) {
	t.Helper()
	if b, e := Encode(s); e != api.OK || !bytes.Equal(b, want) {
		t.Errorf("Encode(%v) = %v, %d; want %v", s, b, e, want)
	}
	if again, e := Decode(want); e != api.OK || !same(again, s) {
		t.Errorf("Decode(%v) = %v, %d; want %v", want, again, e, s)
	}
}

func TestDecodeRefuses(t *testing.T) {
	a, b := api.Entry{Key: "a", Count: 2}, api.Entry{Key: "b", Count: 2}
	many := sumOf(32, 32, 4).Entries
	codes := [][]byte{
		nil,
		{1},
		{1, 0, 0},
		// Numbers out of range.
		join(0, 0, 0, 0),
		join(33, 0, 0, 0),
		join(256+1, 0, 0, 0),
		join(1<<62, 0, 0, 0),
		join(1, mostTotal+1, 0, 0),
		join(1, 1<<62, 0, 0),
		join(1, math.MaxInt, 0, 0),
		join(1, 0, 2, 0),
		join(1, 0, 255, 0),
		join(1, 0, 256, 0),
		join(1, 0, 257, 0),
		join(1, 0, 1<<32+1, 0),
		// Too few and too many entries.
		join(2, 9, 0, 0, a),
		join(2, 9, 0, 1, a, b),
		join(2, 9, 0, 2, a),
		join(2, 9, 0, 3, a, b),
		join(1, 9, 0, 2, a, b),
		join(31, 9, 0, 32, many...),
		join(32, 9, 0, 31, many...),
		join(32, 9, 0, 33, append(slices.Clone(many), api.Entry{Key: "~", Count: 1})...),
		join(2, 9, 0, 256+1, a),
		join(2, 9, 0, 1<<32+1, a),
		join(2, 9, 0, 1<<62, a),
		join(2, 9, 0, 1<<62),
		join(2, 9, 0, math.MaxInt, a),
		// Entries that are not valid.
		join(2, 9, 0, 1, api.Entry{Count: 1}),
		join(2, 9, 0, 1, api.Entry{Key: strings.Repeat("k", 33), Count: 1}),
		join(2, 9, 0, 1, api.Entry{Key: strings.Repeat("k", 1<<16), Count: 1}),
		join(2, 9, 0, 1, api.Entry{Key: strings.Repeat("k", 1<<16+1), Count: 1}),
		join(2, 9, 0, 1, api.Entry{Key: "a"}),
		join(2, 9, 0, 1, api.Entry{Key: "a", Count: mostTotal + 1}),
		join(2, 9, 0, 1, api.Entry{Key: "a", Count: 1 << 62}),
		join(2, 9, 0, 1, api.Entry{Key: "a", Count: 2, Error: 2}),
		join(2, 9, 0, 1, api.Entry{Key: "a", Count: mostTotal, Error: mostTotal}),
		join(2, 9, 0, 1, api.Entry{Key: "a", Count: 2, Error: 1 << 62}),
		join(2, 9, 0, 2, a, a),
		join(2, 9, 0, 2, b, a),
		join(3, 9, 0, 3, a, b, api.Entry{Key: "a", Count: 1}),
		// Numbers and texts that wire does not write in this way.
		{248, 1, 0, 0, 0},
		{1, 248, 0, 0, 0},
		{1, 248, 247, 0, 0},
		{1, 249, 0, 248, 0, 0},
		{1, 0, 248, 1, 0},
		{1, 0, 0, 248, 0},
		{255, 0, 0, 0, 0, 0, 0, 0, 1, 0, 0, 0},
		{1, 9, 0, 1, 248, 1, 'a', 2, 0},
		{1, 9, 0, 1, 1, 'a', 248, 2, 0},
		{1, 9, 0, 1, 1, 'a', 2, 248, 0},
		bytes.Repeat([]byte{0}, 13),
		bytes.Repeat([]byte{1}, 1000),
		bytes.Repeat([]byte{255}, 1000),
	}
	for _, code := range codes {
		if s, e := Decode(code); e != api.ErrForm || !isZero(s) {
			t.Errorf("Decode(%v) = %v, %d", code, s, e)
		}
	}
}

func TestDecodeOfChangedLists(t *testing.T) {
	for _, s := range []api.Top{topOf(1, 0), saturated(sumOf(2, 2, 5)), sumOf(9, 8, 77)} {
		b := joined(s)
		for i := range b {
			// The missing bytes still follow, as spare capacity.
			if d, e := Decode(b[:i]); e != api.ErrForm || !isZero(d) {
				t.Errorf("Decode(%v) = %v, %d", b[:i], d, e)
			}
		}
		for _, x := range []byte{0, 1, 248, 255} {
			if d, e := Decode(append(slices.Clone(b), x)); e != api.ErrForm || !isZero(d) {
				t.Errorf("Decode(%v and %d) = %v, %d", b, x, d, e)
			}
		}
		for i := range b {
			for x := range 256 {
				changed := slices.Clone(b)
				changed[i] = byte(x)
				checkExact(t, changed)
			}
		}
	}
}

// checkExact checks that Decode finds a summary only if its encoding is b.
func checkExact(t *testing.T, b []byte) {
	s, e := Decode(b)
	if e != api.OK {
		if e != api.ErrForm || !isZero(s) {
			t.Errorf("Decode(%v) = %v, %d", b, s, e)
		}
		return
	}
	if Validate(s) != api.OK || !bytes.Equal(joined(s), b) {
		t.Errorf("Decode(%v) = %v", b, s)
	}
}

// guard lists entries with spare capacity, so that a change of either shows.
func guard(t api.Top) (guarded api.Top, all []api.Entry) {
	all = append(slices.Clone(t.Entries), api.Entry{Key: "spare", Count: 1}, api.Entry{Key: "more", Count: 2})
	t.Entries = all[:len(t.Entries)]
	return t, all
}

func TestArgumentsAreNotChanged(t *testing.T) {
	for size := 1; size <= mostSize; size++ {
		for length := range size + 1 {
			s, all := guard(sumOf(size, length, 8))
			before := slices.Clone(all)
			other, otherAll := guard(sumOf(size, length, 8))
			var results []api.Top
			for _, key := range append(keysOf(length), "new") {
				grown, _ := Insert(s, api.Item{Key: key, Weight: mostOf})
				results = append(results, grown)
			}
			empty, _ := New(size)
			for _, pair := range [][2]api.Top{{s, other}, {s, empty}, {empty, s}, {s, s}} {
				sum, _ := Merge(pair[0], pair[1])
				results = append(results, sum)
			}
			Validate(s)
			Least(s)
			Find(s, "a")
			Encode(s)
			for _, d := range results {
				clear(d.Entries[:cap(d.Entries)])
			}
			if !slices.Equal(all, before) || !slices.Equal(otherAll, before) {
				t.Errorf("the entries %v became %v and %v", before, all, otherAll)
			}
		}
	}
}

func TestResultsAreNotShared(t *testing.T) {
	s := sumOf(9, 9, 4)
	want := joined(s)
	b, _ := Encode(s)
	clear(b[:cap(b)])
	wide := append(slices.Clone(want), 9, 9, 9)
	kept := slices.Clone(wide)
	d, e := Decode(wide[:len(want)])
	if e != api.OK || !same(d, s) || !bytes.Equal(wide, kept) {
		t.Errorf("Decode with spare capacity is %v, %d", d, e)
	}
	clear(wide)
	if !same(d, s) {
		t.Errorf("Decode keeps its argument: %v", d)
	}
	clear(d.Entries[:cap(d.Entries)])
	if again, _ := Encode(s); !bytes.Equal(again, want) {
		t.Errorf("Encode(%v) = %v after a change of an earlier result", s, again)
	}
}
