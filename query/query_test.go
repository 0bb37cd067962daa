package query

import (
	"math"
	"slices"
	"strings"
	"testing"

	"sketchstore/api"
	"sketchstore/countmin"
	"sketchstore/frequent"
	"sketchstore/loglog"
	"sketchstore/mixer"
	"sketchstore/ranks"
	"sketchstore/sketch"
	"sketchstore/topk"
)

// The limits of the chapter, written once more so that wrong ones show.
const (
	mostKey     = 32
	mostEntries = 32
	mostDen     = 1000000
)

// The kinds of sketches and of queries, in their order.
const (
	kindTally = iota + 1
	kindCountMin
	kindLogLog
	kindTop
	kindFrequent
	kindRanks
)

const (
	queryTotal = iota + 1
	queryPoint
	queryRegisters
	queryDistinct
	queryTop
	queryRank
	queryQuantile
)

// same compares two answers; a nil list and an empty one are equal.
func same(a, b api.Answer) bool {
	return a.Value == b.Value && a.Error == b.Error && a.Key == b.Key && a.Saturated == b.Saturated &&
		slices.Equal(a.Numbers, b.Numbers) && slices.Equal(a.Entries, b.Entries)
}

// word returns a number of a fixed sequence.
func word(i int) int {
	return int(mixer.Mix(uint64(i)*97531+246) >> 1)
}

// someKeys are keys of all lengths; two of them are longer ones of others.
func someKeys() []string {
	return []string{"a", "m", "aa", "B", "\x00", "\xff", "é", "a b", strings.Repeat("k", 32), strings.Repeat("\xff", 32), "c", "d"}
}

// goodParams are valid parameters of each kind.
func goodParams() []api.Params {
	l := []api.Params{
		{Kind: kindTally},
		{Kind: kindCountMin, Depth: 1, Size: 1},
		{Kind: kindCountMin, Depth: 3, Size: 4, Seed: 9},
		{Kind: kindCountMin, Depth: 8, Size: 64, Seed: math.MaxUint64},
		{Kind: kindLogLog, Size: 2},
		{Kind: kindLogLog, Size: 5, Seed: 9},
		{Kind: kindLogLog, Size: 8, Seed: math.MaxUint64},
	}
	for _, kind := range []int{kindTop, kindFrequent} {
		for _, size := range []int{1, 2, 5, 32} {
			l = append(l, api.Params{Kind: kind, Size: size})
		}
	}
	for _, size := range []int{2, 6, 32} {
		l = append(l, api.Params{Kind: kindRanks, Size: size})
	}
	return l
}

// filled returns a sketch with n insertions of a fixed sequence, the weights of
// which are small, so that some are equal.
func filled(t *testing.T, p api.Params, n, start int) api.Sketch {
	t.Helper()
	s, e := sketch.New(p)
	keys := someKeys()
	flips, at := []byte{0x5a, 0x33, byte(start)}, 0
	for i := range n {
		w := word(start + i)
		x := api.Item{Key: keys[w%len(keys)], Weight: 1 + w>>8%5}
		if e == api.OK {
			s, at, e = sketch.Insert(s, x, flips, at)
		}
	}
	if e != api.OK {
		t.Fatal(p, e)
	}
	return s
}

// goodSketches are valid sketches of each kind.
func goodSketches(t *testing.T) []api.Sketch {
	t.Helper()
	var l []api.Sketch
	for i, p := range goodParams() {
		for _, n := range []int{0, 1, 3, 9, 60} {
			l = append(l, filled(t, p, n, 100*i+n))
		}
	}
	return l
}

// saturated returns a sketch whose field is flagged, and whether its kind has a
// flag.
func saturated(s api.Sketch) (api.Sketch, bool) {
	switch s.Params.Kind {
	case kindTally:
		s.Tally.Saturated = true
	case kindCountMin:
		s.CountMin.Saturated = true
	case kindTop:
		s.Top.Saturated = true
	case kindFrequent:
		s.Frequent.Saturated = true
	case kindRanks:
		s.Ranks.Saturated = true
	default:
		return s, false
	}
	return s, true
}

// fault is an invalid sketch with its first error.
type fault struct {
	s api.Sketch
	e api.Errno
}

// badSketches are invalid sketches of each kind, some of which could be answered
// all the same.
func badSketches(t *testing.T) []fault {
	t.Helper()
	l := []fault{{api.Sketch{}, api.ErrUnknown}}
	for _, p := range goodParams() {
		s := filled(t, p, 5, 5)
		s.Params.Kind = 7
		l = append(l, fault{s, api.ErrUnknown})
		s = filled(t, p, 5, 5)
		s.Params.Depth = 9
		e := api.ErrKind
		if p.Kind == kindCountMin {
			e = api.ErrRange
		}
		l = append(l, fault{s, e})
		// A second field is in use.
		s = filled(t, p, 5, 5)
		if p.Kind == kindTally {
			s.Ranks.Slack = 1
		} else {
			s.Tally.Total = 1
		}
		l = append(l, fault{s, api.ErrShape})
	}
	entry := api.Entry{Key: "b", Count: 3}
	top := api.Params{Kind: kindTop, Size: 2}
	often := api.Params{Kind: kindFrequent, Size: 2}
	return append(l, []fault{
		{api.Sketch{Params: api.Params{Kind: kindTally}, Tally: api.Tally{Total: -1}}, api.ErrRange},
		{api.Sketch{Params: api.Params{Kind: kindCountMin, Depth: 1, Size: 1}}, api.ErrRange},
		{api.Sketch{
			Params:   api.Params{Kind: kindCountMin, Depth: 1, Size: 2},
			CountMin: api.CountMin{Depth: 1, Size: 2, Cells: []int{1}},
		}, api.ErrShape},
		{api.Sketch{
			Params: api.Params{Kind: kindLogLog, Size: 2},
			LogLog: api.LogLog{Precision: 2, Registers: []int{0, 0, 0, 64}},
		}, api.ErrRange},
		{api.Sketch{Params: top, Top: api.Top{Size: 2, Entries: []api.Entry{entry, entry}}}, api.ErrDuplicate},
		{api.Sketch{Params: top, Top: api.Top{Size: 2, Entries: []api.Entry{entry, {Key: "a", Count: 3}}}}, api.ErrOrder},
		{api.Sketch{Params: top, Top: api.Top{Size: 2, Entries: make([]api.Entry, 3)}}, api.ErrTooLarge},
		{api.Sketch{Params: often, Frequent: api.Frequent{Size: 2, Entries: []api.Entry{entry, {Key: "a", Count: 3}}}}, api.ErrOrder},
		{api.Sketch{Params: often, Frequent: api.Frequent{Size: 2, Entries: []api.Entry{{Count: 1}}}}, api.ErrKey},
		{api.Sketch{
			Params: api.Params{Kind: kindRanks, Size: 4},
			Ranks:  api.Ranks{Size: 4, Total: 2, Levels: [][]string{{"a"}}},
		}, api.ErrState},
	}...)
}

// queryError is P13.1.
func queryError(q api.Query) api.Errno {
	if q.Kind < 1 || q.Kind > 7 {
		return api.ErrUnknown
	}
	keyed := q.Kind == queryPoint || q.Kind == queryRank
	if keyed && (len(q.Key) < 1 || len(q.Key) > mostKey) {
		return api.ErrKey
	}
	if q.Kind == queryTop && (q.Count < 0 || q.Count > mostEntries) {
		return api.ErrRange
	}
	if q.Kind == queryQuantile && (q.Den < 1 || q.Den > mostDen || q.Num < 0 || q.Num > q.Den) {
		return api.ErrRange
	}
	if !keyed && q.Key != "" || q.Kind != queryTop && q.Count != 0 ||
		q.Kind != queryQuantile && (q.Num != 0 || q.Den != 0) {
		return api.ErrShape
	}
	return api.OK
}

// anyQueries are queries of all kinds, valid ones and others.
func anyQueries() []api.Query {
	var l []api.Query
	kinds := []int{math.MinInt, -1, 0, 1, 2, 3, 4, 5, 6, 7, 8, 256 + 1, 1<<32 + 1, math.MaxInt}
	texts := []string{"", "a", "\x00", strings.Repeat("k", 32), strings.Repeat("k", 33)}
	counts := []int{math.MinInt, -1, 0, 1, 32, 33, 1 << 32, math.MaxInt}
	numbers := []int{math.MinInt, -1, 0, 1, 2, mostDen - 1, mostDen, mostDen + 1, math.MaxInt}
	for _, kind := range kinds {
		for _, key := range texts {
			for _, count := range counts {
				for _, num := range numbers {
					for _, den := range numbers {
						l = append(l, api.Query{Kind: kind, Key: key, Count: count, Num: num, Den: den})
					}
				}
			}
		}
	}
	return l
}

// goodQueries are valid queries of each kind.
func goodQueries() []api.Query {
	l := []api.Query{{Kind: queryTotal}, {Kind: queryRegisters}, {Kind: queryDistinct}}
	for _, key := range append(someKeys(), "z", "b", "al") {
		l = append(l, api.Query{Kind: queryPoint, Key: key}, api.Query{Kind: queryRank, Key: key})
	}
	for count := range mostEntries + 1 {
		l = append(l, api.Query{Kind: queryTop, Count: count})
	}
	for _, den := range []int{1, 2, 3, 7, mostDen} {
		for _, num := range []int{0, 1, den / 3, den / 2, den - 1, den} {
			l = append(l, api.Query{Kind: queryQuantile, Num: num, Den: den})
		}
	}
	return l
}

func TestValidate(t *testing.T) {
	long, longer := strings.Repeat("k", 32), strings.Repeat("k", 33)
	for _, x := range []struct {
		q api.Query
		e api.Errno
	}{
		{api.Query{}, api.ErrUnknown},
		{api.Query{Kind: -1}, api.ErrUnknown},
		{api.Query{Kind: 8}, api.ErrUnknown},
		{api.Query{Kind: 8, Key: longer, Count: -1, Num: -1, Den: -1}, api.ErrUnknown},
		{api.Query{Kind: queryTotal}, api.OK},
		{api.Query{Kind: queryTotal, Key: "a"}, api.ErrShape},
		{api.Query{Kind: queryTotal, Key: longer}, api.ErrShape},
		{api.Query{Kind: queryTotal, Count: 1}, api.ErrShape},
		{api.Query{Kind: queryTotal, Count: -1}, api.ErrShape},
		{api.Query{Kind: queryTotal, Num: 1}, api.ErrShape},
		{api.Query{Kind: queryTotal, Den: 1}, api.ErrShape},
		{api.Query{Kind: queryPoint}, api.ErrKey},
		{api.Query{Kind: queryPoint, Key: long}, api.OK},
		{api.Query{Kind: queryPoint, Key: longer}, api.ErrKey},
		{api.Query{Kind: queryPoint, Key: "\x00"}, api.OK},
		{api.Query{Kind: queryPoint, Count: 1}, api.ErrKey},
		{api.Query{Kind: queryPoint, Key: "a", Count: 1}, api.ErrShape},
		{api.Query{Kind: queryPoint, Key: "a", Num: -1}, api.ErrShape},
		{api.Query{Kind: queryPoint, Key: "a", Den: 1}, api.ErrShape},
		{api.Query{Kind: queryRegisters}, api.OK},
		{api.Query{Kind: queryRegisters, Key: "a"}, api.ErrShape},
		{api.Query{Kind: queryRegisters, Count: 1}, api.ErrShape},
		{api.Query{Kind: queryDistinct}, api.OK},
		{api.Query{Kind: queryDistinct, Num: 1, Den: 2}, api.ErrShape},
		{api.Query{Kind: queryTop}, api.OK},
		{api.Query{Kind: queryTop, Count: 32}, api.OK},
		{api.Query{Kind: queryTop, Count: 33}, api.ErrRange},
		{api.Query{Kind: queryTop, Count: -1}, api.ErrRange},
		{api.Query{Kind: queryTop, Count: -1, Key: "a"}, api.ErrRange},
		{api.Query{Kind: queryTop, Count: 1, Key: "a"}, api.ErrShape},
		{api.Query{Kind: queryTop, Count: 1, Den: 1}, api.ErrShape},
		{api.Query{Kind: queryRank}, api.ErrKey},
		{api.Query{Kind: queryRank, Key: long}, api.OK},
		{api.Query{Kind: queryRank, Key: longer, Den: 1}, api.ErrKey},
		{api.Query{Kind: queryRank, Key: "a", Num: 1}, api.ErrShape},
		{api.Query{Kind: queryQuantile}, api.ErrRange},
		{api.Query{Kind: queryQuantile, Den: 1}, api.OK},
		{api.Query{Kind: queryQuantile, Num: 1, Den: 1}, api.OK},
		{api.Query{Kind: queryQuantile, Num: 2, Den: 1}, api.ErrRange},
		{api.Query{Kind: queryQuantile, Num: -1, Den: 1}, api.ErrRange},
		{api.Query{Kind: queryQuantile, Num: -2, Den: -1}, api.ErrRange},
		{api.Query{Kind: queryQuantile, Num: mostDen, Den: mostDen}, api.OK},
		{api.Query{Kind: queryQuantile, Num: 1, Den: mostDen + 1}, api.ErrRange},
		{api.Query{Kind: queryQuantile, Key: "a"}, api.ErrRange},
		{api.Query{Kind: queryQuantile, Den: 1, Key: "a"}, api.ErrShape},
		{api.Query{Kind: queryQuantile, Den: 1, Count: 1}, api.ErrShape},
	} {
		if e := Validate(x.q); e != x.e {
			t.Errorf("Validate(%v) = %d, want %d", x.q, e, x.e)
		}
	}
}

func TestValidateOfAnyQuery(t *testing.T) {
	for _, q := range append(anyQueries(), goodQueries()...) {
		if e, want := Validate(q), queryError(q); e != want {
			t.Errorf("Validate(%v) = %d, want %d", q, e, want)
		}
	}
	for _, q := range goodQueries() {
		if e := Validate(q); e != api.OK {
			t.Errorf("Validate(%v) = %d", q, e)
		}
	}
}

func TestEntries(t *testing.T) {
	long := strings.Repeat("k", 32)
	for _, x := range []struct {
		s    api.Sketch
		want []api.Entry
	}{
		{api.Sketch{Params: api.Params{Kind: kindTop, Size: 3}, Top: api.Top{Size: 3}}, nil},
		{api.Sketch{Params: api.Params{Kind: kindFrequent, Size: 3}, Frequent: api.Frequent{Size: 3}}, nil},
		// The error of a key that is not stored is not shown.
		{api.Sketch{Params: api.Params{Kind: kindFrequent, Size: 3}, Frequent: api.Frequent{Size: 3, Total: 9, Lost: 2}}, nil},
		{
			api.Sketch{Params: api.Params{Kind: kindTop, Size: 4}, Top: api.Top{
				Size: 4, Total: 20, Entries: []api.Entry{{Key: "b", Count: 9, Error: 8}, {Key: "B", Count: 3}, {Key: "a", Count: 3, Error: 2}, {Key: "\x00", Count: 1}},
			}},
			[]api.Entry{{Key: "b", Count: 9, Error: 8}, {Key: "B", Count: 3}, {Key: "a", Count: 3, Error: 2}, {Key: "\x00", Count: 1}},
		},
		{
			api.Sketch{Params: api.Params{Kind: kindFrequent, Size: 6}, Frequent: api.Frequent{
				Size: 6, Total: 40, Lost: 5, Entries: []api.Entry{{Key: "\x00", Count: 1}, {Key: "B", Count: 3}, {Key: "a", Count: 7}, {Key: "aa", Count: 3}, {Key: long, Count: 7}, {Key: "\xff", Count: 3}},
			}},
			[]api.Entry{{Key: "a", Count: 7, Error: 5}, {Key: long, Count: 7, Error: 5}, {Key: "B", Count: 3, Error: 5}, {Key: "aa", Count: 3, Error: 5}, {Key: "\xff", Count: 3, Error: 5}, {Key: "\x00", Count: 1, Error: 5}},
		},
		{
			api.Sketch{Params: api.Params{Kind: kindFrequent, Size: 2}, Frequent: api.Frequent{
				Size: 2, Total: 1 << 40, Lost: 1 << 40, Entries: []api.Entry{{Key: "a", Count: 1}, {Key: "b", Count: 1 << 40}}, Saturated: true,
			}},
			[]api.Entry{{Key: "b", Count: 1 << 40, Error: 1 << 40}, {Key: "a", Count: 1, Error: 1 << 40}},
		},
	} {
		if l, e := Entries(x.s); e != api.OK || !slices.Equal(l, x.want) {
			t.Errorf("Entries(%v) = %v, %d; want %v", x.s, l, e, x.want)
		}
	}
}

// So many entries with the same counts show the order of the keys in any sort.
func TestEntriesWithTheSameCounts(t *testing.T) {
	for _, count := range []int{1, 2, 3} {
		top := api.Sketch{Params: api.Params{Kind: kindTop, Size: 32}, Top: api.Top{Size: 32}}
		often := api.Sketch{Params: api.Params{Kind: kindFrequent, Size: 32}, Frequent: api.Frequent{Size: 32, Lost: 4}}
		for i := range 32 {
			key := string([]byte{byte(8 * i), byte(i)})
			often.Frequent.Entries = append(often.Frequent.Entries, api.Entry{Key: key, Count: 7 + word(i)%count})
		}
		ordered := ranked(often)
		for _, x := range ordered {
			top.Top.Entries = append(top.Top.Entries, api.Entry{Key: x.Key, Count: x.Count, Error: 4})
		}
		for _, s := range []api.Sketch{top, often} {
			if l, e := Entries(s); e != api.OK || !slices.Equal(l, ordered) {
				t.Errorf("Entries(%v) = %v, %d; want %v", s, l, e, ordered)
			}
			a, e := Ask(s, api.Query{Kind: queryTop, Count: 20})
			if e != api.OK || !same(a, api.Answer{Entries: ordered[:20]}) {
				t.Errorf("Ask(%v, for 20 entries) = %v, %d; want %v", s, a, e, ordered[:20])
			}
		}
	}
}

// ranked is P13.2 for a valid sketch of one of its kinds: an entry goes before
// all others that it beats.
func ranked(s api.Sketch) []api.Entry {
	entries := append(slices.Clone(s.Top.Entries), s.Frequent.Entries...)
	l := make([]api.Entry, len(entries))
	for _, x := range entries {
		at := 0
		for _, y := range entries {
			if y.Count > x.Count || y.Count == x.Count && y.Key < x.Key {
				at++
			}
		}
		if s.Params.Kind == kindFrequent {
			x.Error = s.Frequent.Lost
		}
		l[at] = x
	}
	return l
}

func TestEntriesOfEachSketch(t *testing.T) {
	for _, s := range goodSketches(t) {
		want, wantError := ranked(s), api.OK
		if s.Params.Kind != kindTop && s.Params.Kind != kindFrequent {
			wantError = api.ErrKind
		}
		if l, e := Entries(s); e != wantError || !slices.Equal(l, want) {
			t.Errorf("Entries(%v) = %v, %d; want %v, %d", s, l, e, want, wantError)
		}
	}
	for _, x := range badSketches(t) {
		if l, e := Entries(x.s); e != x.e || len(l) != 0 {
			t.Errorf("Entries(%v) = %v, %d; want error %d", x.s, l, e, x.e)
		}
	}
}

func tallyOf() api.Sketch {
	return api.Sketch{Params: api.Params{Kind: kindTally}, Tally: api.Tally{Total: 70, Items: 3}}
}

// cellsOf is a sketch that has the same estimate for each key.
func cellsOf() api.Sketch {
	return api.Sketch{
		Params:   api.Params{Kind: kindCountMin, Depth: 3, Size: 1, Seed: 5},
		CountMin: api.CountMin{Depth: 3, Size: 1, Seed: 5, Cells: []int{8, 6, 7}},
	}
}

func registersOf() api.Sketch {
	return api.Sketch{
		Params: api.Params{Kind: kindLogLog, Size: 2, Seed: 5},
		LogLog: api.LogLog{Precision: 2, Seed: 5, Registers: []int{0, 1, 0, 63}},
	}
}

func topOf() api.Sketch {
	return api.Sketch{Params: api.Params{Kind: kindTop, Size: 2}, Top: api.Top{
		Size: 2, Total: 30, Entries: []api.Entry{{Key: "b", Count: 20, Error: 2}, {Key: "a", Count: 10, Error: 1}},
	}}
}

func frequentOf() api.Sketch {
	return api.Sketch{Params: api.Params{Kind: kindFrequent, Size: 3}, Frequent: api.Frequent{
		Size: 3, Total: 50, Lost: 4, Entries: []api.Entry{{Key: "a", Count: 6}, {Key: "b", Count: 9}, {Key: "c", Count: 6}},
	}}
}

func ranksOf() api.Sketch {
	return api.Sketch{Params: api.Params{Kind: kindRanks, Size: 4}, Ranks: api.Ranks{
		Size: 4, Total: 5, Slack: 3, Levels: [][]string{{"b"}, {"a", "c"}},
	}}
}

// The answers of this test were found by hand.
func TestAsk(t *testing.T) {
	order := []api.Entry{{Key: "b", Count: 9, Error: 4}, {Key: "a", Count: 6, Error: 4}, {Key: "c", Count: 6, Error: 4}}
	for _, x := range []struct {
		s    api.Sketch
		q    api.Query
		want api.Answer
	}{
		{tallyOf(), api.Query{Kind: queryTotal}, api.Answer{Value: 70}},
		{topOf(), api.Query{Kind: queryTotal}, api.Answer{Value: 30}},
		{frequentOf(), api.Query{Kind: queryTotal}, api.Answer{Value: 50}},
		{ranksOf(), api.Query{Kind: queryTotal}, api.Answer{Value: 5}},
		{cellsOf(), api.Query{Kind: queryPoint, Key: "any"}, api.Answer{Value: 6}},
		{topOf(), api.Query{Kind: queryPoint, Key: "b"}, api.Answer{Value: 20, Error: 2}},
		{topOf(), api.Query{Kind: queryPoint, Key: "a"}, api.Answer{Value: 10, Error: 1}},
		{topOf(), api.Query{Kind: queryPoint, Key: "c"}, api.Answer{Value: 10, Error: 10}},
		{frequentOf(), api.Query{Kind: queryPoint, Key: "b"}, api.Answer{Value: 9, Error: 4}},
		{frequentOf(), api.Query{Kind: queryPoint, Key: "bb"}, api.Answer{Value: 0, Error: 4}},
		{cellsOf(), api.Query{Kind: queryRegisters}, api.Answer{Numbers: []int{8, 6, 7}}},
		{registersOf(), api.Query{Kind: queryRegisters}, api.Answer{Numbers: []int{0, 1, 0, 63}}},
		// 541000 * 16 * 2^50 / (2^50 + 2^49 + 2^50) / 1000000 is 3.46.
		{registersOf(), api.Query{Kind: queryDistinct}, api.Answer{Value: 3}},
		{topOf(), api.Query{Kind: queryTop}, api.Answer{}},
		{topOf(), api.Query{Kind: queryTop, Count: 1}, api.Answer{Entries: []api.Entry{{Key: "b", Count: 20, Error: 2}}}},
		{topOf(), api.Query{Kind: queryTop, Count: 2}, api.Answer{Entries: topOf().Top.Entries}},
		{topOf(), api.Query{Kind: queryTop, Count: 3}, api.Answer{Entries: topOf().Top.Entries}},
		{frequentOf(), api.Query{Kind: queryTop}, api.Answer{}},
		{frequentOf(), api.Query{Kind: queryTop, Count: 2}, api.Answer{Entries: order[:2]}},
		{frequentOf(), api.Query{Kind: queryTop, Count: 3}, api.Answer{Entries: order}},
		{frequentOf(), api.Query{Kind: queryTop, Count: 32}, api.Answer{Entries: order}},
		{ranksOf(), api.Query{Kind: queryRank, Key: "B"}, api.Answer{Value: 0, Error: 3}},
		{ranksOf(), api.Query{Kind: queryRank, Key: "a"}, api.Answer{Value: 2, Error: 3}},
		{ranksOf(), api.Query{Kind: queryRank, Key: "bb"}, api.Answer{Value: 3, Error: 3}},
		{ranksOf(), api.Query{Kind: queryRank, Key: "c"}, api.Answer{Value: 5, Error: 3}},
		{ranksOf(), api.Query{Kind: queryQuantile, Den: 9}, api.Answer{Key: "a", Error: 3}},
		{ranksOf(), api.Query{Kind: queryQuantile, Num: 2, Den: 5}, api.Answer{Key: "a", Error: 3}},
		{ranksOf(), api.Query{Kind: queryQuantile, Num: 1, Den: 2}, api.Answer{Key: "b", Error: 3}},
		{ranksOf(), api.Query{Kind: queryQuantile, Num: 600001, Den: mostDen}, api.Answer{Key: "c", Error: 3}},
		{ranksOf(), api.Query{Kind: queryQuantile, Num: 1, Den: 1}, api.Answer{Key: "c", Error: 3}},
	} {
		if a, e := Ask(x.s, x.q); e != api.OK || !same(a, x.want) {
			t.Errorf("Ask(%v, %v) = %v, %d; want %v", x.s, x.q, a, e, x.want)
		}
		s, flagged := saturated(x.s)
		x.want.Saturated = flagged
		if a, e := Ask(s, x.q); e != api.OK || !same(a, x.want) {
			t.Errorf("Ask(%v, %v) = %v, %d; want %v", s, x.q, a, e, x.want)
		}
	}
}

func TestAskAnEmptySketch(t *testing.T) {
	ask := func(p api.Params, q api.Query, want api.Answer) {
		t.Helper()
		if a, e := Ask(filled(t, p, 0, 0), q); e != api.OK || !same(a, want) {
			t.Errorf("Ask(the empty %v, %v) = %v, %d; want %v", p, q, a, e, want)
		}
	}
	for _, p := range goodParams() {
		switch p.Kind {
		case kindTally:
			ask(p, api.Query{Kind: queryTotal}, api.Answer{})
		case kindCountMin:
			ask(p, api.Query{Kind: queryPoint, Key: "a"}, api.Answer{})
			ask(p, api.Query{Kind: queryRegisters}, api.Answer{Numbers: make([]int, p.Depth*p.Size)})
		case kindLogLog:
			ask(p, api.Query{Kind: queryDistinct}, api.Answer{})
			ask(p, api.Query{Kind: queryRegisters}, api.Answer{Numbers: make([]int, 1<<p.Size)})
		case kindTop, kindFrequent:
			ask(p, api.Query{Kind: queryTotal}, api.Answer{})
			ask(p, api.Query{Kind: queryPoint, Key: "a"}, api.Answer{})
			ask(p, api.Query{Kind: queryTop, Count: 32}, api.Answer{})
		case kindRanks:
			ask(p, api.Query{Kind: queryTotal}, api.Answer{})
			ask(p, api.Query{Kind: queryRank, Key: "a"}, api.Answer{})
		}
	}
}

// asked is P13.3 for valid arguments: each pair of kinds that belong together
// has its own case.
func asked(s api.Sketch, q api.Query) (a api.Answer, e api.Errno) {
	var x api.Entry
	switch [2]int{q.Kind, s.Params.Kind} {
	case [2]int{queryTotal, kindTally}:
		a.Value = s.Tally.Total
	case [2]int{queryTotal, kindTop}:
		a.Value = s.Top.Total
	case [2]int{queryTotal, kindFrequent}:
		a.Value = s.Frequent.Total
	case [2]int{queryTotal, kindRanks}:
		a.Value = s.Ranks.Total
	case [2]int{queryPoint, kindCountMin}:
		a.Value, e = countmin.Estimate(s.CountMin, q.Key)
	case [2]int{queryPoint, kindTop}:
		x, _, e = topk.Find(s.Top, q.Key)
		a.Value, a.Error = x.Count, x.Error
	case [2]int{queryPoint, kindFrequent}:
		x, _, e = frequent.Find(s.Frequent, q.Key)
		a.Value, a.Error = x.Count, x.Error
	case [2]int{queryRegisters, kindCountMin}:
		a.Numbers = s.CountMin.Cells
	case [2]int{queryRegisters, kindLogLog}:
		a.Numbers = s.LogLog.Registers
	case [2]int{queryDistinct, kindLogLog}:
		a.Value, e = loglog.Estimate(s.LogLog)
	case [2]int{queryTop, kindTop}, [2]int{queryTop, kindFrequent}:
		for i, x := range ranked(s) {
			if i < q.Count {
				a.Entries = append(a.Entries, x)
			}
		}
	case [2]int{queryRank, kindRanks}:
		a.Value, e = ranks.Rank(s.Ranks, q.Key)
		a.Error = s.Ranks.Slack
	case [2]int{queryQuantile, kindRanks}:
		if a.Key, e = ranks.Quantile(s.Ranks, q.Num, q.Den); e == api.OK {
			a.Error = s.Ranks.Slack
		}
	default:
		e = api.ErrKind
	}
	return a, e
}

func TestAskEachSketchEachQuery(t *testing.T) {
	for _, s := range goodSketches(t) {
		flagged, flag := saturated(s)
		for _, q := range goodQueries() {
			want, wantError := asked(s, q)
			if a, e := Ask(s, q); e != wantError || !same(a, want) {
				t.Errorf("Ask(%v, %v) = %v, %d; want %v, %d", s, q, a, e, want, wantError)
			}
			want.Saturated = flag && wantError == api.OK
			if a, e := Ask(flagged, q); e != wantError || !same(a, want) {
				t.Errorf("Ask(%v, %v) = %v, %d; want %v, %d", flagged, q, a, e, want, wantError)
			}
		}
	}
}

// Each of the weights that were inserted is within the error of its answer.
func TestAnswersAreWithinTheirErrors(t *testing.T) {
	for _, p := range goodParams() {
		s, e := sketch.New(p)
		weights, sum, at := map[string]int{}, 0, 0
		for i := range 80 {
			x := api.Item{Key: someKeys()[word(i)%12], Weight: 1 + word(i)>>9%7}
			weights[x.Key] += x.Weight
			sum += x.Weight
			if s, at, e = sketch.Insert(s, x, []byte{0xc3, 0x5a}, at); e != api.OK {
				t.Fatal(p, e)
			}
		}
		if a, e := Ask(s, api.Query{Kind: queryTotal}); e == api.OK && a.Value != sum {
			t.Errorf("the total of %v is %d, want %d", s, a.Value, sum)
		}
		for key, w := range weights {
			a, e := Ask(s, api.Query{Kind: queryPoint, Key: key})
			low, high := a.Value-a.Error, a.Value
			switch p.Kind {
			case kindCountMin:
				low, high = 0, a.Value
			case kindFrequent:
				low, high = a.Value, a.Value+a.Error
			}
			if e == api.OK && (w < low || w > high) {
				t.Errorf("%q has the weight %d, but in %v from %d to %d", key, w, s, low, high)
			}
			atMost := 0
			for other, w := range weights {
				if other <= key {
					atMost += w
				}
			}
			a, e = Ask(s, api.Query{Kind: queryRank, Key: key})
			if e == api.OK && (atMost < a.Value-a.Error || atMost > a.Value+a.Error) {
				t.Errorf("%q has the rank %d, but in %v %d with the error %d", key, atMost, s, a.Value, a.Error)
			}
		}
	}
}

func checkRefused(t *testing.T, s api.Sketch, q api.Query, want api.Errno) {
	t.Helper()
	if a, e := Ask(s, q); e != want || !same(a, api.Answer{}) {
		t.Errorf("Ask(%v, %v) = %v, %d; want error %d", s, q, a, e, want)
	}
}

func TestErrorsOfAsk(t *testing.T) {
	none := filled(t, api.Params{Kind: kindRanks, Size: 4}, 0, 0)
	// An empty summary with an error, as a valid one may be.
	slack := none
	slack.Ranks.Slack = 7
	for _, q := range goodQueries() {
		if q.Kind == queryQuantile {
			checkRefused(t, none, q, api.ErrState)
			checkRefused(t, slack, q, api.ErrState)
		}
	}
	checkRefused(t, none, api.Query{Kind: queryQuantile}, api.ErrRange)
	checkRefused(t, none, api.Query{Kind: queryQuantile, Den: 1, Count: 1}, api.ErrShape)
	checkRefused(t, none, api.Query{Kind: queryTop}, api.ErrKind)
	checkRefused(t, tallyOf(), api.Query{Kind: queryTop}, api.ErrKind)
	checkRefused(t, tallyOf(), api.Query{Kind: queryTop, Count: 33}, api.ErrRange)
	checkRefused(t, tallyOf(), api.Query{Kind: queryPoint}, api.ErrKey)
	checkRefused(t, tallyOf(), api.Query{Kind: queryQuantile, Den: 1, Key: "a"}, api.ErrShape)
	checkRefused(t, tallyOf(), api.Query{Kind: 8}, api.ErrUnknown)
	checkRefused(t, api.Sketch{}, api.Query{Kind: queryPoint}, api.ErrUnknown)
}

func TestAskRefusesQueries(t *testing.T) {
	l := []api.Sketch{tallyOf(), cellsOf(), registersOf(), topOf(), frequentOf(), ranksOf()}
	for _, q := range anyQueries() {
		want := queryError(q)
		if want == api.OK {
			continue
		}
		for _, s := range l {
			checkRefused(t, s, q, want)
		}
	}
}

func TestAskRefusesSketches(t *testing.T) {
	bad := []api.Query{{}, {Kind: 8}, {Kind: queryPoint}, {Kind: queryTop, Count: 33}, {Kind: queryQuantile}, {Kind: queryTotal, Den: 1}}
	for _, x := range badSketches(t) {
		for _, q := range append(goodQueries(), bad...) {
			checkRefused(t, x.s, q, x.e)
		}
	}
}

// widened returns a copy of s whose lists have spare capacity, and lists that
// also contain this.
func widened(s api.Sketch) (api.Sketch, [][]int, [][]api.Entry) {
	numbers := [][]int{append(slices.Clone(s.CountMin.Cells), 41, 42), append(slices.Clone(s.LogLog.Registers), 41, 42)}
	spare := api.Entry{Key: "spare", Count: 1}
	entries := [][]api.Entry{append(slices.Clone(s.Top.Entries), spare), append(slices.Clone(s.Frequent.Entries), spare)}
	s.CountMin.Cells = numbers[0][:len(s.CountMin.Cells)]
	s.LogLog.Registers = numbers[1][:len(s.LogLog.Registers)]
	s.Top.Entries = entries[0][:len(s.Top.Entries)]
	s.Frequent.Entries = entries[1][:len(s.Frequent.Entries)]
	return s, numbers, entries
}

// spoil changes all memory of two lists.
func spoil(numbers []int, entries []api.Entry) {
	numbers, entries = numbers[:cap(numbers)], entries[:cap(entries)]
	for i := range numbers {
		numbers[i] = -9
	}
	for i := range entries {
		entries[i] = api.Entry{Key: "spoiled"}
	}
}

func TestArgumentsAreNotChanged(t *testing.T) {
	for _, s := range goodSketches(t) {
		wide, numbers, entries := widened(s)
		_, wasNumbers, wasEntries := widened(s)
		first, firstError := Entries(wide)
		spoil(nil, first)
		if second, e := Entries(wide); e != firstError || !slices.Equal(second, ranked(s)) {
			t.Errorf("Entries(%v) = %v, %d after a change of an earlier result", s, second, e)
		}
		for _, q := range goodQueries() {
			a, _ := Ask(wide, q)
			spoil(a.Numbers, a.Entries)
			b, e := Ask(wide, q)
			if want, wantError := asked(s, q); e != wantError || !same(b, want) {
				t.Errorf("Ask(%v, %v) = %v, %d after a change of an earlier answer", s, q, b, e)
			}
		}
		if !slices.EqualFunc(numbers, wasNumbers, slices.Equal[[]int]) || !slices.EqualFunc(entries, wasEntries, slices.Equal[[]api.Entry]) {
			t.Errorf("the memory of %v became %v, %v", s, numbers, entries)
		}
	}
}

func TestAnswersAreNotShared(t *testing.T) {
	for _, s := range goodSketches(t) {
		for _, q := range goodQueries() {
			want, wantError := asked(s, q)
			wide, numbers, entries := widened(s)
			a, e := Ask(wide, q)
			l, _ := Entries(wide)
			for i := range numbers {
				spoil(numbers[i], entries[i])
			}
			if e != wantError || !same(a, want) || !slices.Equal(l, ranked(s)) {
				t.Errorf("Ask(%v, %v) = %v, Entries: %v, after a change of the sketch", s, q, a, l)
			}
		}
	}
}
