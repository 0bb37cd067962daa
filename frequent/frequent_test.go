package frequent

import (
	"bytes"
	"encoding/binary"
	"maps"
	"math"
	"slices"
	"strconv"
	"strings"
	"testing"

	"sketchstore/api"
	"sketchstore/mixer"
)

// The limits of the chapter, written once more so that wrong ones show.
const (
	mostSize  = 32
	mostTotal = 1 << 40
	mostOf    = 4294967295 // of a weight
)

// edges are the numbers at which a limit or a sum could go wrong.
func edges() []int {
	return []int{
		math.MinInt, math.MinInt + 1, -1 << 61, -mostTotal, -1 << 32, -33, -32, -2, -1,
		0, 1, 2, 3, 31, 32, 33, 34, 247, 248, 249, 255, 256, 257, 1 << 31,
		mostOf - 1, mostOf, mostOf + 1, mostTotal - 2, mostTotal - 1, mostTotal, mostTotal + 1,
		mostTotal + 2, 1 << 41, 1 << 61, 1<<61 + 1, 1 << 62, math.MaxInt - 1, math.MaxInt,
	}
}

func same(f, g api.Frequent) bool {
	return f.Size == g.Size && f.Total == g.Total && f.Lost == g.Lost &&
		f.Saturated == g.Saturated && slices.Equal(f.Entries, g.Entries)
}

func isZero(f api.Frequent) bool {
	return same(f, api.Frequent{})
}

func entry(key string, count int) api.Entry {
	return api.Entry{Key: key, Count: count}
}

func of(size, total, lost int, entries ...api.Entry) api.Frequent {
	return api.Frequent{Size: size, Total: total, Lost: lost, Entries: entries}
}

func saturated(f api.Frequent) api.Frequent {
	f.Saturated = true
	return f
}

// countsOf returns the counts of a summary by their keys.
func countsOf(f api.Frequent) map[string]int {
	counts := make(map[string]int)
	for _, x := range f.Entries {
		counts[x.Key] = x.Count
	}
	return counts
}

// limited returns the summary with the counts, all numbers of which are exact
// so far, except for those counts that have been limited already.
func limited(f api.Frequent, counts map[string]int) api.Frequent {
	f.Entries = nil
	for _, key := range slices.Sorted(maps.Keys(counts)) {
		f.Entries = append(f.Entries, entry(key, min(counts[key], mostTotal)))
		f.Saturated = f.Saturated || counts[key] > mostTotal
	}
	f.Saturated = f.Saturated || f.Total > mostTotal || f.Lost > mostTotal
	f.Total = min(f.Total, mostTotal)
	f.Lost = min(f.Lost, mostTotal)
	return f
}

// inserted is P10.2 for a valid summary and a valid item.
func inserted(f api.Frequent, x api.Item) api.Frequent {
	counts := countsOf(f)
	f.Total += x.Weight
	_, stored := counts[x.Key]
	if stored || len(counts) < f.Size {
		counts[x.Key] += x.Weight
		return limited(f, counts)
	}
	d := x.Weight
	for _, n := range counts {
		d = min(d, n)
	}
	rest := make(map[string]int)
	for key, n := range counts {
		if n > d {
			rest[key] = n - d
		}
	}
	f.Lost += d
	if x.Weight > d {
		rest[x.Key] = x.Weight - d
	}
	return limited(f, rest)
}

// merged is P10.3 for two valid summaries of equal size.
func merged(a, b api.Frequent) api.Frequent {
	counts := countsOf(a)
	for key, n := range countsOf(b) {
		counts[key] += n
	}
	f := api.Frequent{
		Size: a.Size, Total: a.Total + b.Total, Lost: a.Lost + b.Lost, Saturated: a.Saturated || b.Saturated,
	}
	for key, n := range counts {
		f.Saturated = f.Saturated || n > mostTotal
		counts[key] = min(n, mostTotal)
	}
	if len(counts) <= a.Size {
		return limited(f, counts)
	}
	descending := slices.Sorted(maps.Values(counts))
	slices.Reverse(descending)
	d := descending[a.Size]
	f.Lost += d
	rest := make(map[string]int)
	for key, n := range counts {
		if n > d {
			rest[key] = n - d
		}
	}
	return limited(f, rest)
}

// foundIn is P10.4 for a valid summary and a key.
func foundIn(f api.Frequent, key string) (api.Entry, bool) {
	n, stored := countsOf(f)[key]
	return api.Entry{Key: key, Count: n, Error: f.Lost}, stored
}

// codeOf is wire.EncodeUint of a number that is not negative.
func codeOf(n int) []byte {
	if n < 248 {
		return []byte{byte(n)}
	}
	digits := bytes.TrimLeft(binary.BigEndian.AppendUint64(nil, uint64(n)), "\x00")
	return append([]byte{byte(247 + len(digits))}, digits...)
}

// join returns the encoding that P10.6 describes, of any numbers and entries.
func join(size, total, lost, flag, length int, entries ...api.Entry) []byte {
	b := slices.Concat(codeOf(size), codeOf(total), codeOf(lost), codeOf(flag), codeOf(length))
	for _, x := range entries {
		b = slices.Concat(b, codeOf(len(x.Key)), []byte(x.Key), codeOf(x.Count))
	}
	return b
}

// joined is the encoding of a valid summary.
func joined(f api.Frequent) []byte {
	flag := 0
	if f.Saturated {
		flag = 1
	}
	return join(f.Size, f.Total, f.Lost, flag, len(f.Entries), f.Entries...)
}

// word returns a number of a fixed sequence.
func word(i int) int {
	return int(mixer.Mix(uint64(i)*12345+678) >> 1)
}

// keysOf returns n keys of all lengths and with all kinds of bytes.
func keysOf(n int) []string {
	l := []string{"m", "a", "aa", "B", "\x00", "\xff", "é", "a b", strings.Repeat("k", 32), strings.Repeat("\xff", 32)}
	for i := len(l); i < n; i++ {
		l = append(l, "k"+strconv.Itoa(i))
	}
	return l[:n]
}

// filled returns a valid summary with counts of all sizes, some of them equal.
func filled(size, length, start int) api.Frequent {
	counts := make(map[string]int)
	for i, key := range keysOf(length) {
		place := start + i/2
		counts[key] = 1 + word(place)%mostTotal>>(place%41)
	}
	f := of(size, word(start)%(mostTotal+1), word(start+1)%(mostTotal+1)>>(start%41))
	return limited(f, counts)
}

// renamed replaces some of the keys by others, at other places of the order.
func renamed(f api.Frequent) api.Frequent {
	counts := make(map[string]int)
	for i, x := range f.Entries {
		key := x.Key
		if i%3 != 0 && len(key) < 4 {
			key = key[1:] + "/" + key[:1]
		}
		counts[key] = x.Count
	}
	return limited(f, counts)
}

func badSummaries() []api.Frequent {
	a, b := entry("a", 2), entry("b", 2)
	return []api.Frequent{
		{},
		saturated(api.Frequent{}),
		of(0, 0, 0, a),
		of(-1, 0, 0),
		of(33, 0, 0),
		of(33, 9, 0, a, b),
		of(1, -1, 0),
		of(1, mostTotal+1, 0, a),
		of(1, 9, -1),
		of(1, 9, mostTotal+1, a),
		of(1, 9, 0, a, b),
		of(2, 9, 0, a, entry("", 1)),
		of(2, 9, 0, a, entry("b", 0)),
		of(2, 9, 0, api.Entry{Key: "a", Count: 2, Error: 1}, b),
		of(3, 9, 0, a, b, b),
		of(2, 9, 0, b, a),
	}
}

func TestNew(t *testing.T) {
	for _, size := range append(edges(), 4, 8, 16, 30) {
		f, e := New(size)
		if size < 1 || size > mostSize {
			if e != api.ErrRange || !isZero(f) {
				t.Errorf("New(%d) = %v, %d", size, f, e)
			}
			continue
		}
		if e != api.OK || !same(f, api.Frequent{Size: size}) || Validate(f) != api.OK {
			t.Errorf("New(%d) = %v, %d", size, f, e)
		}
	}
}

func TestValidate(t *testing.T) {
	long := strings.Repeat("k", 33)
	a, b, c := entry("a", 2), entry("b", 5), entry("c", 1)
	wrong := api.Entry{Key: "b", Count: 2, Error: 1}
	for _, x := range []struct {
		f    api.Frequent
		want api.Errno
	}{
		{of(1, 0, 0), api.OK},
		{of(32, mostTotal, mostTotal), api.OK},
		{of(1, 0, 0, a), api.OK},
		{of(3, 8, 9, a, b, c), api.OK},
		{of(4, 8, 9, a, b, c), api.OK},
		{of(2, 0, 0, entry("a", 1), entry("aa", 1)), api.OK},
		{of(1, 0, 0, entry(strings.Repeat("k", 32), mostTotal)), api.OK},
		// Bytes are compared, not letters or runes.
		{of(2, 0, 0, entry("Z", 1), entry("a", 1)), api.OK},
		{of(2, 0, 0, entry("é", 1), entry("\xff", 1)), api.OK},
		{of(2, 0, 0, entry("\x7f", 1), entry("\x80", 1)), api.OK},
		{of(2, 0, 0, entry("\x00", 1), entry("\x00\x00", 1)), api.OK},
		{of(0, 0, 0), api.ErrRange},
		{of(33, 0, 0), api.ErrRange},
		{of(1, -1, 0), api.ErrRange},
		{of(1, 0, -1), api.ErrRange},
		{of(1, mostTotal+1, 0), api.ErrRange},
		{of(1, 0, mostTotal+1), api.ErrRange},
		// The parameters come before the number of entries, and this number
		// before the entries.
		{of(0, 0, 0, a), api.ErrRange},
		{of(1, -1, 0, a, b), api.ErrRange},
		{of(1, 0, -1, a, b), api.ErrRange},
		{of(1, mostTotal+1, 0, entry("", 1)), api.ErrRange},
		{of(1, 0, mostTotal+1, entry("", 1)), api.ErrRange},
		{of(math.MinInt, 0, 0, make([]api.Entry, 40)...), api.ErrRange},
		{of(1, 0, 0, a, b), api.ErrTooLarge},
		{of(2, 0, 0, api.Entry{}, api.Entry{}, api.Entry{}), api.ErrTooLarge},
		{of(2, 0, 0, a, a, a), api.ErrTooLarge},
		{of(32, 0, 0, make([]api.Entry, 33)...), api.ErrTooLarge},
		{of(32, 0, 0, make([]api.Entry, 32)...), api.ErrKey},
		{of(1, 0, 0, entry("", 1)), api.ErrKey},
		{of(1, 0, 0, entry(long, 1)), api.ErrKey},
		// For one entry: the key, the range, the order.
		{of(1, 0, 0, entry(long, 0)), api.ErrKey},
		{of(1, 0, 0, api.Entry{Error: -1}), api.ErrKey},
		{of(2, 0, 0, a, entry("", 1)), api.ErrKey},
		{of(2, 0, 0, entry("", 1), entry("", 1)), api.ErrKey},
		{of(2, 0, 0, a, entry("a", 0)), api.ErrRange},
		{of(2, 0, 0, c, wrong), api.ErrRange},
		{of(2, 0, 0, a, wrong), api.ErrRange},
		{of(2, 0, 0, a, a), api.ErrOrder},
		{of(2, 0, 0, a, entry("a", 1)), api.ErrOrder},
		{of(2, 0, 0, a, entry("a", 3)), api.ErrOrder},
		{of(2, 0, 0, b, a), api.ErrOrder},
		{of(3, 0, 0, a, b, a), api.ErrOrder},
		{of(3, 0, 0, a, c, b), api.ErrOrder},
		{of(2, 0, 0, entry("aa", 1), entry("a", 1)), api.ErrOrder},
		{of(2, 0, 0, entry("a", 1), entry("Z", 1)), api.ErrOrder},
		{of(2, 0, 0, entry("\xff", 1), entry("é", 1)), api.ErrOrder},
		// The first faulty entry counts.
		{of(3, 0, 0, b, a, api.Entry{}), api.ErrOrder},
		{of(3, 0, 0, a, a, wrong), api.ErrOrder},
		{of(3, 0, 0, entry("a", 0), api.Entry{}, b), api.ErrRange},
		{of(3, 0, 0, api.Entry{}, entry("a", 0), b), api.ErrKey},
		{of(3, 0, 0, wrong, a, entry("", 1)), api.ErrRange},
	} {
		for _, f := range []api.Frequent{x.f, saturated(x.f)} {
			if e := Validate(f); e != x.want {
				t.Errorf("Validate(%v) = %d; want %d", f, e, x.want)
			}
		}
	}
}

func TestValidateOfEachNumber(t *testing.T) {
	for _, n := range edges() {
		for _, x := range []struct {
			f    api.Frequent
			good bool
		}{
			{of(n, 0, 0), n >= 1 && n <= mostSize},
			{of(1, n, 0), n >= 0 && n <= mostTotal},
			{of(1, 0, n), n >= 0 && n <= mostTotal},
			{of(3, 7, 7, entry("a", n)), n >= 1 && n <= mostTotal},
			{of(3, 7, 7, api.Entry{Key: "a", Count: mostTotal, Error: n}), n == 0},
			{of(3, 7, 7, api.Entry{Key: "a", Count: 1, Error: n}), n == 0},
		} {
			want := api.ErrRange
			if x.good {
				want = api.OK
			}
			if e := Validate(x.f); e != want {
				t.Errorf("Validate(%v) = %d; want %d", x.f, e, want)
			}
		}
	}
}

func TestValidateOfEachEntry(t *testing.T) {
	good := filled(mostSize, mostSize, 3)
	for i, old := range good.Entries {
		for _, x := range []struct {
			entry api.Entry
			want  api.Errno
		}{
			{old, api.OK},
			{entry(old.Key, mostTotal), api.OK},
			{entry("", old.Count), api.ErrKey},
			{entry(old.Key, 0), api.ErrRange},
			{entry(old.Key, mostTotal+1), api.ErrRange},
			{api.Entry{Key: old.Key, Count: old.Count, Error: 1}, api.ErrRange},
			{entry(good.Entries[(i+31)%32].Key, old.Count), api.ErrOrder},
			{entry(good.Entries[(i+1)%32].Key, old.Count), api.ErrOrder},
			{entry(good.Entries[(i+9)%32].Key, old.Count), api.ErrOrder},
		} {
			good.Entries[i] = x.entry
			if e := Validate(good); e != x.want {
				t.Errorf("Validate with %v as entry %d = %d; want %d", x.entry, i, e, x.want)
			}
		}
		good.Entries[i] = old
	}
}

func TestInsert(t *testing.T) {
	f, _ := New(2)
	for _, x := range []struct {
		item api.Item
		want api.Frequent
	}{
		{api.Item{Key: "b", Weight: 3}, of(2, 3, 0, entry("b", 3))},
		{api.Item{Key: "a", Weight: 2}, of(2, 5, 0, entry("a", 2), entry("b", 3))},
		{api.Item{Key: "a", Weight: 4}, of(2, 9, 0, entry("a", 6), entry("b", 3))},
		// The weight is less than all counts.
		{api.Item{Key: "c", Weight: 1}, of(2, 10, 1, entry("a", 5), entry("b", 2))},
		{api.Item{Key: "b", Weight: 1}, of(2, 11, 1, entry("a", 5), entry("b", 3))},
		// The weight is the smallest count.
		{api.Item{Key: "c", Weight: 3}, of(2, 14, 4, entry("a", 2))},
		{api.Item{Key: "Z", Weight: 4}, of(2, 18, 4, entry("Z", 4), entry("a", 2))},
		// The weight is greater than the smallest count.
		{api.Item{Key: "aa", Weight: 3}, of(2, 21, 6, entry("Z", 2), entry("aa", 1))},
		{api.Item{Key: "Z", Weight: 1}, of(2, 22, 6, entry("Z", 3), entry("aa", 1))},
		{api.Item{Key: "A", Weight: mostOf}, of(2, mostOf+22, 7, entry("A", mostOf-1), entry("Z", 2))},
	} {
		var e api.Errno
		if f, e = Insert(f, x.item); e != api.OK || !same(f, x.want) {
			t.Fatalf("after %v: %v, %d; want %v", x.item, f, e, x.want)
		}
	}
}

func TestInsertOfEqualCounts(t *testing.T) {
	full := of(3, 12, 0, entry("a", 4), entry("b", 4), entry("d", 4))
	for _, x := range []struct {
		weight int
		want   api.Frequent
	}{
		{1, of(3, 13, 1, entry("a", 3), entry("b", 3), entry("d", 3))},
		{4, of(3, 16, 4)},
		{5, of(3, 17, 4, entry("c", 1))},
	} {
		if f, e := Insert(full, api.Item{Key: "c", Weight: x.weight}); e != api.OK || !same(f, x.want) {
			t.Errorf("Insert of weight %d = %v, %d; want %v", x.weight, f, e, x.want)
		}
	}
}

func TestExample(t *testing.T) {
	f, _ := New(1)
	f, _ = Insert(f, api.Item{Key: "a", Weight: 2})
	f, e := Insert(f, api.Item{Key: "b", Weight: 1})
	if e != api.OK || !same(f, of(1, 3, 1, entry("a", 1))) {
		t.Errorf("the summary is %v, %d", f, e)
	}
	if f, e = Insert(f, api.Item{Key: "b", Weight: 3}); e != api.OK || !same(f, of(1, 6, 2, entry("b", 2))) {
		t.Errorf("the summary is %v, %d", f, e)
	}
}

// Entries are in the bytewise order of their keys, in which order they came.
func TestOrder(t *testing.T) {
	keys := []string{"\x00", "0", "A", "Z", "a", "aa", "ab", "b", "\x7f", "é", "日", "\xff", "\xff\x00"}
	for turn := range keys {
		f, _ := New(len(keys))
		var want []api.Entry
		for i, key := range keys {
			place := (i*5 + turn) % len(keys)
			f, _ = Insert(f, api.Item{Key: keys[place], Weight: place + 1})
			want = append(want, entry(key, i+1))
		}
		if !same(f, of(len(keys), len(keys)*(len(keys)+1)/2, 0, want...)) {
			t.Errorf("turn %d gives %v", turn, f)
		}
	}
}

func TestInsertOfEachWeight(t *testing.T) {
	for _, size := range []int{1, 2, 3, 9, 32} {
		for length := range size + 1 {
			f := filled(size, length, 3*length+size)
			weights := edges()
			for _, x := range f.Entries {
				weights = append(weights, x.Count-1, x.Count, x.Count+1)
			}
			for _, key := range append(keysOf(length), "new", "0", "\xff\xff") {
				for _, weight := range weights {
					item := api.Item{Key: key, Weight: weight}
					want, wantError := api.Frequent{}, api.ErrRange
					if weight >= 1 && weight <= mostOf {
						want, wantError = inserted(f, item), api.OK
					}
					if g, e := Insert(f, item); e != wantError || !same(g, want) {
						t.Errorf("Insert(%v, %v) = %v, %d; want %v, %d", f, item, g, e, want, wantError)
					}
				}
			}
		}
	}
}

func TestManyInsertions(t *testing.T) {
	for size := 1; size <= mostSize; size++ {
		f, _ := New(size)
		for i := range 300 {
			n := word(i + 1000*size)
			item := api.Item{Key: keysOf(50)[n%50*(n/50%50)/50], Weight: 1 + n>>20%7}
			want := inserted(f, item)
			g, e := Insert(f, item)
			if e != api.OK || !same(g, want) || Validate(g) != api.OK {
				t.Fatalf("Insert(%v, %v) = %v, %d; want %v", f, item, g, e, want)
			}
			f = g
		}
	}
}

func TestSaturationOfInsert(t *testing.T) {
	const most = mostTotal
	for _, x := range []struct {
		before api.Frequent
		item   api.Item
		want   api.Frequent
	}{
		// Only the total.
		{of(1, most-1, 0), api.Item{Key: "a", Weight: 1}, of(1, most, 0, entry("a", 1))},
		{of(1, most-1, 0), api.Item{Key: "a", Weight: 2}, saturated(of(1, most, 0, entry("a", 2)))},
		{of(1, most, 0), api.Item{Key: "a", Weight: mostOf}, saturated(of(1, most, 0, entry("a", mostOf)))},
		// Only the count of a key that has an entry.
		{of(2, 5, 0, entry("b", most-2)), api.Item{Key: "b", Weight: 2}, of(2, 7, 0, entry("b", most))},
		{of(2, 5, 0, entry("b", most-2)), api.Item{Key: "b", Weight: 3}, saturated(of(2, 8, 0, entry("b", most)))},
		{of(1, 5, 7, entry("b", most)), api.Item{Key: "b", Weight: 1}, saturated(of(1, 6, 7, entry("b", most)))},
		// Only the lost weight.
		{of(1, 5, most-2, entry("b", 9)), api.Item{Key: "a", Weight: 2}, of(1, 7, most, entry("b", 7))},
		{of(1, 5, most-2, entry("b", 9)), api.Item{Key: "a", Weight: 3}, saturated(of(1, 8, most, entry("b", 6)))},
		{of(1, 5, most-2, entry("b", 2)), api.Item{Key: "a", Weight: 9}, of(1, 14, most, entry("a", 7))},
		{of(1, 5, most-2, entry("b", 3)), api.Item{Key: "a", Weight: 9}, saturated(of(1, 14, most, entry("a", 6)))},
		{of(1, 5, most, entry("b", 3)), api.Item{Key: "a", Weight: 3}, saturated(of(1, 8, most))},
		// Numbers that are full but do not grow are no reason.
		{of(1, 5, most, entry("b", 3)), api.Item{Key: "b", Weight: 3}, of(1, 8, most, entry("b", 6))},
		{of(2, 5, most, entry("b", most)), api.Item{Key: "a", Weight: 1}, of(2, 6, most, entry("a", 1), entry("b", most))},
		{of(1, 5, 0, entry("b", most)), api.Item{Key: "a", Weight: 1}, of(1, 6, 1, entry("b", most-1))},
		// A flag is kept.
		{saturated(of(1, 5, 0)), api.Item{Key: "a", Weight: 1}, saturated(of(1, 6, 0, entry("a", 1)))},
		{saturated(of(1, 5, 0, entry("a", 1))), api.Item{Key: "b", Weight: 1}, saturated(of(1, 6, 1))},
	} {
		if f, e := Insert(x.before, x.item); e != api.OK || !same(f, x.want) || Validate(f) != api.OK {
			t.Errorf("Insert(%v, %v) = %v, %d; want %v", x.before, x.item, f, e, x.want)
		}
	}
}

func TestErrorsOfInsert(t *testing.T) {
	good := filled(4, 3, 7)
	large := of(1, 0, 0, entry("a", 1), entry("b", 1))
	long := strings.Repeat("k", 33)
	for _, x := range []struct {
		f    api.Frequent
		item api.Item
		want api.Errno
	}{
		{good, api.Item{}, api.ErrKey},
		{good, api.Item{Weight: 1}, api.ErrKey},
		{good, api.Item{Key: long, Weight: 1}, api.ErrKey},
		{good, api.Item{Key: long, Weight: -1}, api.ErrKey},
		{good, api.Item{Key: "a"}, api.ErrRange},
		{good, api.Item{Key: "a", Weight: -1}, api.ErrRange},
		{good, api.Item{Key: "a", Weight: mostOf + 1}, api.ErrRange},
		{large, api.Item{Key: "a", Weight: 1}, api.ErrTooLarge},
		{large, api.Item{}, api.ErrTooLarge},
		{large, api.Item{Key: "a"}, api.ErrTooLarge},
		{api.Frequent{}, api.Item{Key: "a", Weight: 1}, api.ErrRange},
		{api.Frequent{}, api.Item{}, api.ErrRange},
	} {
		if f, e := Insert(x.f, x.item); e != x.want || !isZero(f) {
			t.Errorf("Insert(%v, %v) = %v, %d; want error %d", x.f, x.item, f, e, x.want)
		}
	}
	for _, bad := range badSummaries() {
		for _, item := range []api.Item{{}, {Key: "a", Weight: 1}, {Key: "z", Weight: 1}, {Key: "a"}} {
			if f, e := Insert(bad, item); e != Validate(bad) || e == api.OK || !isZero(f) {
				t.Errorf("Insert(%v, %v) = %v, %d", bad, item, f, e)
			}
		}
	}
}

func TestMerge(t *testing.T) {
	x5, y3, y2, z1 := entry("x", 5), entry("y", 3), entry("y", 2), entry("z", 1)
	for _, x := range []struct {
		a, b, want api.Frequent
	}{
		{of(2, 0, 0), of(2, 0, 0), of(2, 0, 0)},
		{of(2, 3, 1), of(2, 4, 2), of(2, 7, 3)},
		{of(2, 9, 1, x5, y3), of(2, 0, 0), of(2, 9, 1, x5, y3)},
		// There is room for all.
		{of(3, 9, 1, x5, y3), of(3, 4, 1, y2, z1), of(3, 13, 2, x5, entry("y", 5), z1)},
		{of(4, 9, 1, x5, z1), of(4, 4, 1, y2), of(4, 13, 2, x5, y2, z1)},
		{of(2, 9, 1, x5, y3), of(2, 4, 1, x5, y2), of(2, 13, 2, entry("x", 10), entry("y", 5))},
		// One entry too many.
		{of(2, 9, 1, x5, y3), of(2, 4, 1, y2, z1), of(2, 13, 3, entry("x", 4), entry("y", 4))},
		{of(2, 9, 0, x5, y3), of(2, 4, 0, z1), of(2, 13, 1, entry("x", 4), entry("y", 2))},
		{of(1, 9, 0, x5), of(1, 4, 0, z1), of(1, 13, 1, entry("x", 4))},
		{of(1, 9, 0, z1), of(1, 4, 0, x5), of(1, 13, 1, entry("x", 4))},
		// More of them: d is the count at position Size + 1, not the smallest.
		{
			of(2, 9, 4, x5, y3), of(2, 8, 2, entry("a", 7), entry("b", 1)),
			of(2, 17, 9, entry("a", 4), entry("x", 2)),
		},
		{
			of(3, 9, 0, entry("b", 6), entry("d", 5), entry("f", 2)),
			of(3, 9, 0, entry("a", 1), entry("c", 4), entry("e", 3)),
			of(3, 18, 3, entry("b", 3), entry("c", 1), entry("d", 2)),
		},
		// Equal counts at position Size + 1 and before it.
		{
			of(2, 9, 0, x5, y3), of(2, 8, 0, entry("a", 3), entry("b", 3)),
			of(2, 17, 3, entry("x", 2)),
		},
		{of(2, 9, 0, entry("a", 3), entry("b", 3)), of(2, 9, 1, entry("c", 3)), of(2, 18, 4)},
		{of(1, 9, 0, entry("a", 3)), of(1, 9, 0, entry("b", 3)), of(1, 18, 3)},
	} {
		for _, s := range [][3]api.Frequent{
			{x.a, x.b, x.want},
			{saturated(x.a), x.b, saturated(x.want)},
			{x.a, saturated(x.b), saturated(x.want)},
			{saturated(x.a), saturated(x.b), saturated(x.want)},
		} {
			checkMerge(t, s[0], s[1], s[2])
		}
	}
}

// checkMerge merges in both orders.
func checkMerge(t *testing.T, a, b, want api.Frequent) {
	t.Helper()
	if f, e := Merge(a, b); e != api.OK || !same(f, want) || Validate(f) != api.OK {
		t.Errorf("Merge(%v, %v) = %v, %d; want %v", a, b, f, e, want)
	}
	if f, e := Merge(b, a); e != api.OK || !same(f, want) {
		t.Errorf("Merge(%v, %v) = %v, %d; want %v", b, a, f, e, want)
	}
}

func TestMergeOfEachSize(t *testing.T) {
	for size := 1; size <= mostSize; size++ {
		for i := range size + 1 {
			for _, j := range []int{0, 1, size / 2, size - 1, size} {
				a, b := filled(size, i, i+size), filled(size, j, 7*j)
				checkMerge(t, a, b, merged(a, b))
				b = renamed(b)
				checkMerge(t, a, b, merged(a, b))
			}
			a := filled(size, i, 5*i)
			checkMerge(t, a, a, merged(a, a))
			checkMerge(t, a, of(size, 0, 0), a)
		}
	}
}

func TestSaturationOfMerge(t *testing.T) {
	const most, half = mostTotal, mostTotal / 2
	for _, x := range []struct {
		a, b, want api.Frequent
	}{
		// Only the total.
		{of(2, half, 0), of(2, half, 0), of(2, most, 0)},
		{of(2, half+1, 0), of(2, half, 0), saturated(of(2, most, 0))},
		{of(2, most, 0), of(2, most, 0), saturated(of(2, most, 0))},
		{of(2, most, most), of(2, 0, 0), of(2, most, most)},
		// Only the lost weights of both.
		{of(2, 0, half), of(2, 0, half), of(2, 0, most)},
		{of(2, 0, half+1), of(2, 0, half), saturated(of(2, 0, most))},
		{of(2, 0, most), of(2, 0, most), saturated(of(2, 0, most))},
		// Only the weight that is lost now.
		{of(1, 1, half, entry("a", 3)), of(1, 1, half-2, entry("b", 2)), of(1, 2, most, entry("a", 1))},
		{of(1, 1, half, entry("a", 3)), of(1, 1, half-1, entry("b", 2)), saturated(of(1, 2, most, entry("a", 1)))},
		{of(1, 1, 0, entry("a", most)), of(1, 1, 0, entry("b", most)), of(1, 2, most)},
		{of(1, 1, 1, entry("a", most)), of(1, 1, 0, entry("b", most)), saturated(of(1, 2, most))},
		{of(1, 1, most, entry("a", 5)), of(1, 1, 0, entry("b", 4)), saturated(of(1, 2, most, entry("a", 1)))},
		// Only a count of both.
		{of(2, 1, 0, entry("a", half)), of(2, 1, 0, entry("a", half)), of(2, 2, 0, entry("a", most))},
		{of(2, 1, 0, entry("a", half)), of(2, 1, 0, entry("a", half+1)), saturated(of(2, 2, 0, entry("a", most)))},
		{of(2, 1, 0, entry("a", most)), of(2, 1, 0, entry("a", most)), saturated(of(2, 2, 0, entry("a", most)))},
		// A count is limited before the weight that is lost is subtracted.
		{
			of(2, 1, 0, entry("a", most), entry("b", 9)), of(2, 1, 0, entry("a", 5), entry("c", 4)),
			saturated(of(2, 2, 4, entry("a", most-4), entry("b", 5))),
		},
		{
			of(2, 1, 0, entry("a", most), entry("b", most)), of(2, 1, 0, entry("a", 5), entry("c", most)),
			saturated(of(2, 2, most)),
		},
		{
			of(2, 1, 0, entry("a", half), entry("b", most)), of(2, 1, 0, entry("a", half+1), entry("b", 1)),
			saturated(of(2, 2, 0, entry("a", most), entry("b", most))),
		},
		// A full count beside a missing one.
		{of(1, 1, 0), of(1, 1, 0, entry("z", most)), of(1, 2, 0, entry("z", most))},
	} {
		checkMerge(t, x.a, x.b, x.want)
		checkMerge(t, saturated(x.a), x.b, saturated(x.want))
	}
}

func TestErrorsOfMerge(t *testing.T) {
	good := filled(3, 2, 5)
	large := of(1, 0, 0, entry("a", 1), entry("b", 1))
	order := of(2, 0, 0, entry("b", 1), entry("a", 1))
	for _, x := range []struct {
		a, b api.Frequent
		want api.Errno
	}{
		{good, large, api.ErrTooLarge},
		{large, good, api.ErrTooLarge},
		{large, order, api.ErrTooLarge},
		{order, large, api.ErrOrder},
		// Invalid summaries come before different sizes.
		{good, order, api.ErrOrder},
		{order, good, api.ErrOrder},
		{good, api.Frequent{}, api.ErrRange},
		{api.Frequent{}, api.Frequent{}, api.ErrRange},
		{good, filled(2, 2, 5), api.ErrKind},
		{good, filled(4, 2, 5), api.ErrKind},
		{good, of(32, 0, 0), api.ErrKind},
		{of(1, 0, 0), of(2, 0, 0), api.ErrKind},
		{of(2, 0, 0), of(1, 0, 0), api.ErrKind},
	} {
		if f, e := Merge(x.a, x.b); e != x.want || !isZero(f) {
			t.Errorf("Merge(%v, %v) = %v, %d; want error %d", x.a, x.b, f, e, x.want)
		}
	}
	for _, bad := range badSummaries() {
		if f, e := Merge(good, bad); e != Validate(bad) || e == api.OK || !isZero(f) {
			t.Errorf("Merge(%v, %v) = %v, %d", good, bad, f, e)
		}
		if f, e := Merge(bad, good); e != Validate(bad) || e == api.OK || !isZero(f) {
			t.Errorf("Merge(%v, %v) = %v, %d", bad, good, f, e)
		}
	}
}

func TestFind(t *testing.T) {
	f := of(3, 20, 6, entry("b", 9), entry("d", 4))
	for _, x := range []struct {
		f      api.Frequent
		key    string
		want   api.Entry
		stored bool
	}{
		{f, "b", api.Entry{Key: "b", Count: 9, Error: 6}, true},
		{f, "d", api.Entry{Key: "d", Count: 4, Error: 6}, true},
		{f, "a", api.Entry{Key: "a", Error: 6}, false},
		{f, "c", api.Entry{Key: "c", Error: 6}, false},
		{f, "e", api.Entry{Key: "e", Error: 6}, false},
		{of(3, 0, 0), "a", api.Entry{Key: "a"}, false},
		{of(1, 0, mostTotal, entry("a", mostTotal)), "a", api.Entry{Key: "a", Count: mostTotal, Error: mostTotal}, true},
		{of(1, 0, mostTotal, entry("a", mostTotal)), "c", api.Entry{Key: "c", Error: mostTotal}, false},
	} {
		for _, f := range []api.Frequent{x.f, saturated(x.f)} {
			if y, stored, e := Find(f, x.key); y != x.want || stored != x.stored || e != api.OK {
				t.Errorf("Find(%v, %q) = %v, %t, %d; want %v, %t", f, x.key, y, stored, e, x.want, x.stored)
			}
		}
	}
}

func TestFindOfEachKey(t *testing.T) {
	for size := 1; size <= mostSize; size++ {
		for length := range size + 1 {
			f := filled(size, length, length+1)
			for _, key := range append(keysOf(mostSize), "other", "A", "\x00\x00", strings.Repeat("k", 31)) {
				want, found := foundIn(f, key)
				if x, stored, e := Find(f, key); x != want || stored != found || e != api.OK {
					t.Errorf("Find(%v, %q) = %v, %t, %d; want %v, %t", f, key, x, stored, e, want, found)
				}
			}
		}
	}
}

func TestErrorsOfFind(t *testing.T) {
	long := strings.Repeat("k", 33)
	for _, f := range []api.Frequent{of(1, 0, 5), filled(3, 3, 4), filled(3, 2, 4)} {
		for _, key := range []string{"", long, strings.Repeat("k", 1000)} {
			if x, stored, e := Find(f, key); x != (api.Entry{}) || stored || e != api.ErrKey {
				t.Errorf("Find(%v, %q) = %v, %t, %d", f, key, x, stored, e)
			}
		}
	}
	for _, bad := range badSummaries() {
		for _, key := range []string{"a", "z", "", long} {
			if x, stored, e := Find(bad, key); x != (api.Entry{}) || stored || e != Validate(bad) || e == api.OK {
				t.Errorf("Find(%v, %q) = %v, %t, %d", bad, key, x, stored, e)
			}
		}
	}
}

// weighed is a summary with the exact weights of its keys.
type weighed struct {
	f       api.Frequent
	weights map[string]int
}

func (w weighed) insert(t *testing.T, x api.Item) weighed {
	t.Helper()
	f, e := Insert(w.f, x)
	if e != api.OK {
		t.Fatalf("Insert(%v, %v): error %d", w.f, x, e)
	}
	return weighed{f, w.plus(map[string]int{x.Key: x.Weight})}
}

func (w weighed) merge(t *testing.T, v weighed) weighed {
	t.Helper()
	f, e := Merge(w.f, v.f)
	if e != api.OK {
		t.Fatalf("Merge(%v, %v): error %d", w.f, v.f, e)
	}
	return weighed{f, w.plus(v.weights)}
}

func (w weighed) plus(weights map[string]int) map[string]int {
	sum := make(map[string]int)
	for _, l := range []map[string]int{w.weights, weights} {
		for key, n := range l {
			sum[key] += n
		}
	}
	return sum
}

// check checks P10.5 for the keys and one that was never inserted.
func (w weighed) check(t *testing.T, keys []string) {
	t.Helper()
	total, counts := 0, 0
	for _, n := range w.weights {
		total += n
	}
	for _, x := range w.f.Entries {
		counts += x.Count
	}
	if Validate(w.f) != api.OK || w.f.Saturated || w.f.Total != total || counts+(w.f.Size+1)*w.f.Lost > total {
		t.Errorf("%v has total %d and the counts %d", w.f, total, counts)
	}
	for _, key := range append(slices.Clone(keys), "never") {
		x, _, e := Find(w.f, key)
		n := w.weights[key]
		if e != api.OK || x.Key != key || x.Count > n || n > x.Count+w.f.Lost || x.Error != w.f.Lost {
			t.Errorf("Find(%v, %q) = %v, %d; the weight is %d", w.f, key, x, e, n)
		}
	}
}

// All short sequences are inserted, each one also in two parts that are merged.
func TestBoundsOfShortSequences(t *testing.T) {
	keys := []string{"a", "b", "c"}
	weights := []int{1, 3}
	kinds := len(keys) * len(weights)
	for size := 1; size <= 3; size++ {
		for length, n := 0, 1; length <= 4; length, n = length+1, n*kinds {
			for code := range n {
				for split := range length + 1 {
					left, right := weighed{f: of(size, 0, 0)}, weighed{f: of(size, 0, 0)}
					for i, rest := 0, code; i < length; i, rest = i+1, rest/kinds {
						item := api.Item{Key: keys[rest%len(keys)], Weight: weights[rest%kinds/len(keys)]}
						if i < split {
							left = left.insert(t, item)
						} else {
							right = right.insert(t, item)
						}
					}
					left.check(t, keys)
					left.merge(t, right).check(t, keys)
					right.merge(t, left).merge(t, left).check(t, keys)
				}
			}
		}
	}
}

func TestBoundsOfLongSequences(t *testing.T) {
	keys := keysOf(60)
	for size := 1; size <= mostSize; size++ {
		l := make([]weighed, 4)
		for i := range l {
			l[i].f.Size = size
		}
		for i := range 200 {
			n := word(i + 500*size)
			at, other := n%4, n/4%4
			item := api.Item{Key: keys[n>>8%60*(n>>16%60)/60], Weight: 1 + n>>24%(1<<(n>>32%20))}
			l[at] = l[at].insert(t, item)
			// Now and then one part is merged into another one, and begins anew.
			if other != at && n>>40%8 == 0 {
				l[at] = l[at].merge(t, l[other])
				l[other] = weighed{f: of(size, 0, 0)}
			}
			l[at].check(t, keys)
		}
		l[0].merge(t, l[1]).merge(t, l[2].merge(t, l[3])).check(t, keys)
	}
}

func TestEncode(t *testing.T) {
	for _, x := range []struct {
		f    api.Frequent
		want []byte
	}{
		{of(1, 0, 0), []byte{1, 0, 0, 0, 0}},
		{saturated(of(32, 247, 3)), []byte{32, 247, 3, 1, 0}},
		{of(2, 248, 9, entry("a", 1)), []byte{2, 248, 248, 9, 0, 1, 1, 'a', 1}},
		{
			saturated(of(3, mostTotal, 256, entry("z\x00", 256), entry("\xff", 9))),
			[]byte{3, 253, 1, 0, 0, 0, 0, 0, 249, 1, 0, 1, 2, 2, 'z', 0, 249, 1, 0, 1, 255, 9},
		},
		{
			of(1, 7, mostTotal, entry("k", mostTotal-1)),
			[]byte{1, 7, 253, 1, 0, 0, 0, 0, 0, 0, 1, 1, 'k', 252, 255, 255, 255, 255, 255},
		},
	} {
		checkCode(t, x.f, x.want)
	}
	for _, bad := range badSummaries() {
		if b, e := Encode(bad); e != Validate(bad) || e == api.OK || len(b) > 0 {
			t.Errorf("Encode(%v) = %v, %d", bad, b, e)
		}
	}
}

func TestEncodeOfEachSize(t *testing.T) {
	for size := 1; size <= mostSize; size++ {
		for length := range size + 1 {
			for i := range 4 {
				f := filled(size, length, i*length+size)
				checkCode(t, f, joined(f))
				checkCode(t, saturated(f), joined(saturated(f)))
			}
		}
	}
}

func checkCode(t *testing.T, f api.Frequent, want []byte) {
	t.Helper()
	if b, e := Encode(f); e != api.OK || !bytes.Equal(b, want) {
		t.Errorf("Encode(%v) = %v, %d; want %v", f, b, e, want)
	}
	if again, e := Decode(want); e != api.OK || !same(again, f) {
		t.Errorf("Decode(%v) = %v, %d; want %v", want, again, e, f)
	}
}

func TestDecodeRefuses(t *testing.T) {
	a, b := entry("a", 2), entry("b", 2)
	many := filled(32, 32, 4).Entries
	tooMany := slices.Insert(slices.Clone(many), 0, entry("\x00", 1))
	tooMany[1].Key = "\x00\x00"
	codes := [][]byte{
		nil,
		{1},
		{1, 0, 0, 0},
		// Numbers out of range.
		join(0, 0, 0, 0, 0),
		join(33, 0, 0, 0, 0),
		join(256+1, 0, 0, 0, 0),
		join(1<<62, 0, 0, 0, 0),
		join(1, mostTotal+1, 0, 0, 0),
		join(1, 1<<62, 0, 0, 0),
		join(1, math.MaxInt, 0, 0, 0),
		join(1, 0, mostTotal+1, 0, 0),
		join(1, 0, 1<<62, 0, 0),
		join(1, 0, math.MaxInt, 0, 0),
		join(1, 0, 0, 2, 0),
		join(1, 0, 0, 255, 0),
		join(1, 0, 0, 256, 0),
		join(1, 0, 0, 257, 0),
		join(1, 0, 0, 1<<32+1, 0),
		// Too few and too many entries.
		join(2, 9, 0, 0, 0, a),
		join(2, 9, 0, 0, 1, a, b),
		join(2, 9, 0, 0, 2, a),
		join(2, 9, 0, 0, 3, a, b),
		join(1, 9, 0, 0, 2, a, b),
		join(31, 9, 0, 0, 32, many...),
		join(32, 9, 0, 0, 31, many...),
		join(32, 9, 0, 0, 33, tooMany...),
		join(2, 9, 0, 0, 256+1, a),
		join(2, 9, 0, 0, 1<<32+1, a),
		join(2, 9, 0, 0, 1<<62, a),
		join(2, 9, 0, 0, 1<<62),
		join(2, 9, 0, 0, math.MaxInt, a),
		// Entries that are not valid.
		join(2, 9, 0, 0, 1, entry("", 1)),
		join(2, 9, 0, 0, 1, entry(strings.Repeat("k", 33), 1)),
		join(2, 9, 0, 0, 1, entry(strings.Repeat("k", 1<<16), 1)),
		join(2, 9, 0, 0, 1, entry(strings.Repeat("k", 1<<16+1), 1)),
		join(2, 9, 0, 0, 1, entry("a", 0)),
		join(2, 9, 0, 0, 1, entry("a", mostTotal+1)),
		join(2, 9, 0, 0, 1, entry("a", 1<<62)),
		join(2, 9, 0, 0, 2, a, a),
		join(2, 9, 0, 0, 2, b, a),
		join(3, 9, 0, 0, 3, a, b, a),
		// The Error of an entry is not encoded.
		append(join(2, 9, 0, 0, 1, a), 0),
		// Numbers and texts that wire does not write in this way.
		{248, 1, 0, 0, 0, 0},
		{1, 248, 0, 0, 0, 0},
		{1, 248, 247, 0, 0, 0},
		{1, 249, 0, 248, 0, 0, 0},
		{1, 0, 248, 1, 0, 0},
		{1, 0, 0, 248, 1, 0},
		{1, 0, 0, 0, 248, 0},
		{255, 0, 0, 0, 0, 0, 0, 0, 1, 0, 0, 0, 0},
		{1, 9, 0, 0, 1, 248, 1, 'a', 2},
		{1, 9, 0, 0, 1, 1, 'a', 248, 2},
		bytes.Repeat([]byte{0}, 13),
		bytes.Repeat([]byte{1}, 1000),
		bytes.Repeat([]byte{255}, 1000),
	}
	for _, code := range codes {
		if f, e := Decode(code); e != api.ErrForm || !isZero(f) {
			t.Errorf("Decode(%v) = %v, %d", code, f, e)
		}
	}
}

func TestDecodeOfChangedBytes(t *testing.T) {
	for _, f := range []api.Frequent{of(1, 0, 0), saturated(filled(2, 2, 5)), filled(9, 8, 77)} {
		b := joined(f)
		for i := range b {
			// The missing bytes still follow, as spare capacity.
			if g, e := Decode(b[:i]); e != api.ErrForm || !isZero(g) {
				t.Errorf("Decode(%v) = %v, %d", b[:i], g, e)
			}
		}
		for _, x := range []byte{0, 1, 248, 255} {
			if g, e := Decode(append(slices.Clone(b), x)); e != api.ErrForm || !isZero(g) {
				t.Errorf("Decode(%v and %d) = %v, %d", b, x, g, e)
			}
		}
		for i := range b {
			for x := range 256 {
				changed := slices.Clone(b)
				changed[i] = byte(x)
				checkExact(t, changed)
			}
		}
	}
}

// checkExact checks that Decode finds a summary only if its encoding is b.
func checkExact(t *testing.T, b []byte) {
	t.Helper()
	f, e := Decode(b)
	if e != api.OK {
		if e != api.ErrForm || !isZero(f) {
			t.Errorf("Decode(%v) = %v, %d", b, f, e)
		}
		return
	}
	if Validate(f) != api.OK || !bytes.Equal(joined(f), b) {
		t.Errorf("Decode(%v) = %v", b, f)
	}
}

// guard lists entries with spare capacity, so that a change of either shows.
func guard(f api.Frequent) (guarded api.Frequent, all []api.Entry) {
	all = append(slices.Clone(f.Entries), entry("spare", 1), entry("more", 2))
	f.Entries = all[:len(f.Entries)]
	return f, all
}

func TestArgumentsAreNotChanged(t *testing.T) {
	for size := 1; size <= mostSize; size++ {
		for length := range size + 1 {
			f, all := guard(filled(size, length, 8))
			before := slices.Clone(all)
			other, otherAll := guard(renamed(filled(size, length, 8)))
			otherBefore := slices.Clone(otherAll)
			var results []api.Frequent
			for _, key := range append(keysOf(length), "new") {
				for _, weight := range []int{1, mostOf} {
					grown, _ := Insert(f, api.Item{Key: key, Weight: weight})
					results = append(results, grown)
				}
			}
			empty, _ := New(size)
			for _, pair := range [][2]api.Frequent{{f, other}, {other, f}, {f, empty}, {empty, f}, {f, f}} {
				sum, _ := Merge(pair[0], pair[1])
				results = append(results, sum)
			}
			Validate(f)
			Find(f, "a")
			Encode(f)
			for _, g := range results {
				clear(g.Entries[:cap(g.Entries)])
			}
			if !slices.Equal(all, before) || !slices.Equal(otherAll, otherBefore) {
				t.Errorf("the entries %v became %v, and %v %v", before, all, otherBefore, otherAll)
			}
		}
	}
}

func TestResultsAreNotShared(t *testing.T) {
	f := filled(9, 9, 4)
	want := joined(f)
	b, _ := Encode(f)
	clear(b[:cap(b)])
	wide := append(slices.Clone(want), 9, 9, 9)
	kept := slices.Clone(wide)
	g, e := Decode(wide[:len(want)])
	if e != api.OK || !same(g, f) || !bytes.Equal(wide, kept) {
		t.Errorf("Decode with spare capacity is %v, %d", g, e)
	}
	clear(wide)
	if !same(g, f) {
		t.Errorf("Decode keeps its argument: %v", g)
	}
	clear(g.Entries[:cap(g.Entries)])
	if again, _ := Encode(f); !bytes.Equal(again, want) {
		t.Errorf("Encode(%v) = %v after a change of an earlier result", f, again)
	}
}
