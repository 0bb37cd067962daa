package sketch

import (
	"bytes"
	"encoding/binary"
	"math"
	"slices"
	"strings"
	"testing"

	"sketchstore/api"
	"sketchstore/countmin"
	"sketchstore/frequent"
	"sketchstore/loglog"
	"sketchstore/mixer"
	"sketchstore/ranks"
	"sketchstore/tally"
	"sketchstore/topk"
	"sketchstore/wire"
)

// The limits of the chapter, written once more so that wrong ones show.
const (
	mostDepth   = 8
	mostColumns = 64
	leastBits   = 2
	mostBits    = 8
	mostEntries = 32
	mostBuffer  = 32
	mostOf      = 4294967295 // of a weight, and of a count
	mostAt      = 1 << 30
)

// The kinds of the chapter, in their order.
const (
	kindTally = iota + 1
	kindCountMin
	kindLogLog
	kindTop
	kindFrequent
	kindRanks
)

// same compares two sketches; a nil list and an empty one are equal.
func same(a, b api.Sketch) bool {
	return a.Params == b.Params && a.Tally == b.Tally &&
		a.CountMin.Depth == b.CountMin.Depth && a.CountMin.Size == b.CountMin.Size &&
		a.CountMin.Seed == b.CountMin.Seed && a.CountMin.Saturated == b.CountMin.Saturated &&
		slices.Equal(a.CountMin.Cells, b.CountMin.Cells) &&
		a.LogLog.Precision == b.LogLog.Precision && a.LogLog.Seed == b.LogLog.Seed &&
		slices.Equal(a.LogLog.Registers, b.LogLog.Registers) &&
		a.Top.Size == b.Top.Size && a.Top.Total == b.Top.Total && a.Top.Saturated == b.Top.Saturated &&
		slices.Equal(a.Top.Entries, b.Top.Entries) &&
		a.Frequent.Size == b.Frequent.Size && a.Frequent.Total == b.Frequent.Total &&
		a.Frequent.Lost == b.Frequent.Lost && a.Frequent.Saturated == b.Frequent.Saturated &&
		slices.Equal(a.Frequent.Entries, b.Frequent.Entries) &&
		a.Ranks.Size == b.Ranks.Size && a.Ranks.Total == b.Ranks.Total &&
		a.Ranks.Slack == b.Ranks.Slack && a.Ranks.Saturated == b.Ranks.Saturated &&
		slices.EqualFunc(a.Ranks.Levels, b.Ranks.Levels, slices.Equal[[]string])
}

func isZero(s api.Sketch) bool {
	return same(s, api.Sketch{})
}

// emptySketch is the sketch of P12.1 for valid parameters.
func emptySketch(p api.Params) api.Sketch {
	s := api.Sketch{Params: p}
	switch p.Kind {
	case kindCountMin:
		s.CountMin = api.CountMin{Depth: p.Depth, Size: p.Size, Seed: p.Seed, Cells: make([]int, p.Depth*p.Size)}
	case kindLogLog:
		s.LogLog = api.LogLog{Precision: p.Size, Seed: p.Seed, Registers: make([]int, 1<<p.Size)}
	case kindTop:
		s.Top.Size = p.Size
	case kindFrequent:
		s.Frequent.Size = p.Size
	case kindRanks:
		s.Ranks.Size = p.Size
	}
	return s
}

// paramsError is P12.1.
func paramsError(p api.Params) api.Errno {
	good, spare := false, p.Depth != 0 || p.Seed != 0
	switch p.Kind {
	case kindTally:
		good, spare = true, spare || p.Size != 0
	case kindCountMin:
		good, spare = p.Depth >= 1 && p.Depth <= mostDepth && p.Size >= 1 && p.Size <= mostColumns, false
	case kindLogLog:
		good, spare = p.Size >= leastBits && p.Size <= mostBits, p.Depth != 0
	case kindTop, kindFrequent:
		good = p.Size >= 1 && p.Size <= mostEntries
	case kindRanks:
		good = p.Size >= 2 && p.Size <= mostBuffer && p.Size%2 == 0
	default:
		return api.ErrUnknown
	}
	if !good {
		return api.ErrRange
	}
	if spare {
		return api.ErrKind
	}
	return api.OK
}

// anyParams are parameters of all kinds, valid ones and others.
func anyParams() []api.Params {
	numbers := []int{math.MinInt, -64, -2, -1, math.MaxInt - 1, math.MaxInt, 1 << 32, 1<<32 + 2, 256 + 2}
	sizes := slices.Clone(numbers)
	for n := range 67 {
		sizes = append(sizes, n)
	}
	depths := slices.Clone(numbers)
	for n := range 11 {
		depths = append(depths, n)
	}
	kinds := []int{math.MinInt, -1, 0, 1, 2, 3, 4, 5, 6, 7, 8, 256 + 1, 1<<32 + 1, math.MaxInt}
	var l []api.Params
	for _, kind := range kinds {
		for _, size := range sizes {
			for _, depth := range depths {
				for _, seed := range []uint64{0, 1, 1 << 63} {
					l = append(l, api.Params{Kind: kind, Size: size, Depth: depth, Seed: seed})
				}
			}
		}
	}
	return l
}

// goodParams are different valid parameters of each kind.
func goodParams() []api.Params {
	l := []api.Params{
		{Kind: kindTally},
		{Kind: kindCountMin, Depth: 1, Size: 1},
		{Kind: kindCountMin, Depth: 2, Size: 3, Seed: 9},
		{Kind: kindCountMin, Depth: 3, Size: 2, Seed: 9},
		{Kind: kindCountMin, Depth: 2, Size: 3, Seed: 9 + 1<<63},
		{Kind: kindCountMin, Depth: 8, Size: 64, Seed: math.MaxUint64},
		{Kind: kindLogLog, Size: 2},
		{Kind: kindLogLog, Size: 2, Seed: 9},
		{Kind: kindLogLog, Size: 3, Seed: 9},
		{Kind: kindLogLog, Size: 8, Seed: math.MaxUint64},
	}
	for _, kind := range []int{kindTop, kindFrequent} {
		for _, size := range []int{1, 2, 4, 32} {
			l = append(l, api.Params{Kind: kind, Size: size})
		}
	}
	for _, size := range []int{2, 4, 32} {
		l = append(l, api.Params{Kind: kindRanks, Size: size})
	}
	return l
}

// word returns a number of a fixed sequence.
func word(i int) int {
	return int(mixer.Mix(uint64(i)*54321+876) >> 1)
}

// someItems returns n items of a fixed sequence, with keys of all lengths and
// small and large weights.
func someItems(n, start int) []api.Item {
	keys := []string{"a", "m", "aa", "B", "\x00", "\xff", "é", "a b", strings.Repeat("k", 32), strings.Repeat("\xff", 32), "c", "d"}
	var l []api.Item
	for i := range n {
		w := word(start + i)
		l = append(l, api.Item{Key: keys[w%len(keys)], Weight: 1 + w>>8%(1<<(w>>40%33))})
	}
	return l
}

// someCoins returns a list of eight bytes.
func someCoins(i int) []byte {
	return binary.BigEndian.AppendUint64(nil, uint64(word(i))<<1)
}

// must panics where a valid call of a lower layer fails.
func must[T any](x T, e api.Errno) T {
	if e != api.OK {
		panic("a call of a lower layer failed")
	}
	return x
}

// inserted is P12.4 for valid arguments.
func inserted(s api.Sketch, x api.Item, flips []byte, at int) (api.Sketch, int) {
	switch s.Params.Kind {
	case kindTally:
		s.Tally = must(tally.Insert(s.Tally, x))
	case kindCountMin:
		s.CountMin = must(countmin.Insert(s.CountMin, x))
	case kindLogLog:
		s.LogLog = must(loglog.Insert(s.LogLog, x))
	case kindTop:
		s.Top = must(topk.Insert(s.Top, x))
	case kindFrequent:
		s.Frequent = must(frequent.Insert(s.Frequent, x))
	case kindRanks:
		r, next, e := ranks.Insert(s.Ranks, x, flips, at)
		s.Ranks, at = must(r, e), next
	}
	return s, at
}

// merged is P12.5 for valid arguments.
func merged(a, b api.Sketch, flips []byte, at int) (api.Sketch, int) {
	switch a.Params.Kind {
	case kindTally:
		a.Tally = must(tally.Merge(a.Tally, b.Tally))
	case kindCountMin:
		a.CountMin = must(countmin.Merge(a.CountMin, b.CountMin))
	case kindLogLog:
		a.LogLog = must(loglog.Merge(a.LogLog, b.LogLog))
	case kindTop:
		a.Top = must(topk.Merge(a.Top, b.Top))
	case kindFrequent:
		a.Frequent = must(frequent.Merge(a.Frequent, b.Frequent))
	case kindRanks:
		r, next, e := ranks.Merge(a.Ranks, b.Ranks, flips, at)
		a.Ranks, at = must(r, e), next
	}
	return a, at
}

// filled returns a sketch with n insertions of a fixed sequence.
func filled(p api.Params, n, start int) api.Sketch {
	s, at := emptySketch(p), 0
	for _, x := range someItems(n, start) {
		s, at = inserted(s, x, someCoins(start), at)
	}
	return s
}

// goodSketches are valid sketches of each kind.
func goodSketches() []api.Sketch {
	var l []api.Sketch
	for i, p := range goodParams() {
		for _, n := range []int{0, 1, 5, 40} {
			l = append(l, filled(p, n, 100*i+n))
		}
	}
	return l
}

// saturated returns a sketch whose field is flagged, if it has a flag.
func saturated(s api.Sketch) api.Sketch {
	switch s.Params.Kind {
	case kindTally:
		s.Tally.Saturated = true
	case kindCountMin:
		s.CountMin.Saturated = true
	case kindTop:
		s.Top.Saturated = true
	case kindFrequent:
		s.Frequent.Saturated = true
	case kindRanks:
		s.Ranks.Saturated = true
	}
	return s
}

// stray is a change that makes the field of a kind differ from zero.
type stray struct {
	kind int
	f    func(s *api.Sketch)
}

func strays() []stray {
	return []stray{
		{kindTally, func(s *api.Sketch) { s.Tally.Total = 1 }},
		{kindTally, func(s *api.Sketch) { s.Tally.Items = -1 }},
		{kindTally, func(s *api.Sketch) { s.Tally.Saturated = true }},
		{kindCountMin, func(s *api.Sketch) { s.CountMin.Depth = 1 }},
		{kindCountMin, func(s *api.Sketch) { s.CountMin.Size = math.MinInt }},
		{kindCountMin, func(s *api.Sketch) { s.CountMin.Seed = 1 << 63 }},
		{kindCountMin, func(s *api.Sketch) { s.CountMin.Cells = []int{0} }},
		{kindCountMin, func(s *api.Sketch) { s.CountMin.Saturated = true }},
		{kindLogLog, func(s *api.Sketch) { s.LogLog.Precision = 2 }},
		{kindLogLog, func(s *api.Sketch) { s.LogLog.Seed = 1 }},
		{kindLogLog, func(s *api.Sketch) { s.LogLog.Registers = []int{0} }},
		{kindTop, func(s *api.Sketch) { s.Top.Size = 1 }},
		{kindTop, func(s *api.Sketch) { s.Top.Total = -1 }},
		{kindTop, func(s *api.Sketch) { s.Top.Entries = []api.Entry{{}} }},
		{kindTop, func(s *api.Sketch) { s.Top.Saturated = true }},
		{kindFrequent, func(s *api.Sketch) { s.Frequent.Size = 1 }},
		{kindFrequent, func(s *api.Sketch) { s.Frequent.Total = 1 }},
		{kindFrequent, func(s *api.Sketch) { s.Frequent.Lost = 1 }},
		{kindFrequent, func(s *api.Sketch) { s.Frequent.Entries = []api.Entry{{}} }},
		{kindFrequent, func(s *api.Sketch) { s.Frequent.Saturated = true }},
		{kindRanks, func(s *api.Sketch) { s.Ranks.Size = 2 }},
		{kindRanks, func(s *api.Sketch) { s.Ranks.Total = 1 }},
		{kindRanks, func(s *api.Sketch) { s.Ranks.Slack = 1 }},
		// A list that contains an empty list is not empty.
		{kindRanks, func(s *api.Sketch) { s.Ranks.Levels = [][]string{nil} }},
		{kindRanks, func(s *api.Sketch) { s.Ranks.Saturated = true }},
		// Whole valid fields.
		{kindTally, func(s *api.Sketch) { s.Tally = filled(goodParams()[0], 3, 3).Tally }},
		{kindCountMin, func(s *api.Sketch) { s.CountMin = filled(goodParams()[2], 3, 3).CountMin }},
		{kindLogLog, func(s *api.Sketch) { s.LogLog = filled(goodParams()[7], 3, 3).LogLog }},
		{kindTop, func(s *api.Sketch) { s.Top = filled(goodParams()[11], 3, 3).Top }},
		{kindFrequent, func(s *api.Sketch) { s.Frequent = filled(goodParams()[15], 3, 3).Frequent }},
		{kindRanks, func(s *api.Sketch) { s.Ranks = filled(goodParams()[18], 3, 3).Ranks }},
	}
}

// fault is an invalid sketch with its first error.
type fault struct {
	s api.Sketch
	e api.Errno
}

// shapeFaults are sketches with parameters and a field that are valid, but do
// not fit together, or with another field in use.
func shapeFaults() []fault {
	var l []fault
	for _, p := range goodParams() {
		for _, q := range goodParams() {
			if p.Kind == q.Kind && p != q {
				s := filled(p, 3, 5)
				s.Params = q
				l = append(l, fault{s, api.ErrShape})
			}
		}
		for _, x := range strays() {
			if x.kind != p.Kind {
				s := filled(p, 3, 5)
				x.f(&s)
				l = append(l, fault{s, api.ErrShape})
			}
		}
	}
	return l
}

// fieldFaults are sketches with valid parameters and an invalid field.
func fieldFaults() []fault {
	top, often := api.Params{Kind: kindTop, Size: 2}, api.Params{Kind: kindFrequent, Size: 2}
	entry := api.Entry{Key: "b", Count: 3}
	count := api.Params{Kind: kindCountMin, Depth: 2, Size: 3, Seed: 9}
	registers := api.Params{Kind: kindLogLog, Size: 2, Seed: 9}
	buffers := api.Params{Kind: kindRanks, Size: 4}
	l := []fault{
		{api.Sketch{Params: api.Params{Kind: kindTally}, Tally: api.Tally{Total: -1}}, api.ErrRange},
		{api.Sketch{Params: api.Params{Kind: kindTally}, Tally: api.Tally{Total: 2, Items: 3}}, api.ErrRange},
		{api.Sketch{Params: count, CountMin: api.CountMin{Depth: 2, Size: 3, Seed: 9, Cells: make([]int, 5)}}, api.ErrShape},
		{api.Sketch{Params: count, CountMin: api.CountMin{Depth: 2, Size: 3, Seed: 9, Cells: []int{0, 0, 0, 0, 0, -1}}}, api.ErrRange},
		{api.Sketch{Params: registers, LogLog: api.LogLog{Precision: 2, Seed: 9}}, api.ErrShape},
		{api.Sketch{Params: registers, LogLog: api.LogLog{Precision: 2, Seed: 9, Registers: []int{0, 0, 64, 0}}}, api.ErrRange},
		{api.Sketch{Params: top, Top: api.Top{Size: 2, Total: -1}}, api.ErrRange},
		{api.Sketch{Params: top, Top: api.Top{Size: 2, Entries: []api.Entry{{Count: 1}}}}, api.ErrKey},
		{api.Sketch{Params: top, Top: api.Top{Size: 2, Entries: []api.Entry{entry, entry}}}, api.ErrDuplicate},
		{api.Sketch{Params: top, Top: api.Top{Size: 2, Entries: []api.Entry{entry, {Key: "a", Count: 3}}}}, api.ErrOrder},
		{api.Sketch{Params: top, Top: api.Top{Size: 2, Entries: make([]api.Entry, 3)}}, api.ErrTooLarge},
		{api.Sketch{Params: often, Frequent: api.Frequent{Size: 2, Lost: -1}}, api.ErrRange},
		{api.Sketch{Params: often, Frequent: api.Frequent{Size: 2, Entries: []api.Entry{entry, entry}}}, api.ErrOrder},
		{api.Sketch{Params: often, Frequent: api.Frequent{Size: 2, Entries: make([]api.Entry, 3)}}, api.ErrTooLarge},
		{api.Sketch{Params: buffers, Ranks: api.Ranks{Size: 4, Total: 1}}, api.ErrState},
		{api.Sketch{Params: buffers, Ranks: api.Ranks{Size: 4, Levels: make([][]string, 1)}}, api.ErrShape},
		{api.Sketch{Params: buffers, Ranks: api.Ranks{Size: 4, Total: 1, Levels: [][]string{{""}}}}, api.ErrKey},
		{api.Sketch{Params: buffers, Ranks: api.Ranks{Size: 4, Levels: make([][]string, 42)}}, api.ErrTooLarge},
	}
	// Without its field only a tally is valid.
	for _, p := range goodParams() {
		if p.Kind != kindTally {
			l = append(l, fault{api.Sketch{Params: p}, api.ErrRange})
		}
	}
	return l
}

// paramsFaults are sketches with the field of a kind, but with parameters that
// are not valid.
func paramsFaults() []fault {
	var l []fault
	for _, p := range goodParams() {
		s := filled(p, 3, 5)
		for _, f := range []func(p *api.Params){
			func(p *api.Params) { p.Kind = 0 },
			func(p *api.Params) { p.Kind = 7 },
			func(p *api.Params) { p.Kind = -p.Kind },
			func(p *api.Params) { p.Size = 0 },
			func(p *api.Params) { p.Size = -1 },
			func(p *api.Params) { p.Size = 65 },
			func(p *api.Params) { p.Depth = 1 },
			func(p *api.Params) { p.Depth = 9 },
			func(p *api.Params) { p.Seed = 1 },
			func(p *api.Params) { p.Seed = 1 << 63 },
		} {
			q := p
			f(&q)
			if e := paramsError(q); e != api.OK {
				s.Params = q
				l = append(l, fault{s, e})
			}
		}
	}
	return append(l, fault{api.Sketch{}, api.ErrUnknown})
}

// faultPairs are sketches with faults of two sorts, the first one of which
// counts.
func faultPairs() []fault {
	var l []fault
	for _, x := range fieldFaults() {
		for _, y := range strays() {
			if y.kind != x.s.Params.Kind {
				s := x.s
				y.f(&s)
				l = append(l, fault{s, x.e})
			}
		}
		for _, p := range goodParams() {
			if p.Kind == x.s.Params.Kind {
				s := x.s
				s.Params = p
				l = append(l, fault{s, x.e})
			}
		}
		for _, y := range paramsFaults() {
			s := x.s
			s.Params = y.s.Params
			l = append(l, fault{s, y.e})
		}
	}
	for _, x := range paramsFaults() {
		for _, y := range strays() {
			s := x.s
			y.f(&s)
			l = append(l, fault{s, x.e})
		}
	}
	return l
}

// badSketches are invalid sketches of all sorts.
func badSketches() []fault {
	return slices.Concat(paramsFaults(), fieldFaults(), shapeFaults())
}

func TestValidateParams(t *testing.T) {
	for _, x := range []struct {
		p api.Params
		e api.Errno
	}{
		{api.Params{}, api.ErrUnknown},
		{api.Params{Kind: -1}, api.ErrUnknown},
		{api.Params{Kind: 7}, api.ErrUnknown},
		{api.Params{Kind: 7, Size: -1, Depth: -1, Seed: 1}, api.ErrUnknown},
		{api.Params{Kind: kindTally}, api.OK},
		{api.Params{Kind: kindTally, Size: 1}, api.ErrKind},
		{api.Params{Kind: kindTally, Size: -1}, api.ErrKind},
		{api.Params{Kind: kindTally, Depth: 1}, api.ErrKind},
		{api.Params{Kind: kindTally, Seed: 1}, api.ErrKind},
		{api.Params{Kind: kindCountMin}, api.ErrRange},
		{api.Params{Kind: kindCountMin, Depth: 1}, api.ErrRange},
		{api.Params{Kind: kindCountMin, Size: 1}, api.ErrRange},
		{api.Params{Kind: kindCountMin, Depth: 1, Size: 1}, api.OK},
		{api.Params{Kind: kindCountMin, Depth: 8, Size: 64, Seed: 1}, api.OK},
		{api.Params{Kind: kindCountMin, Depth: 9, Size: 64, Seed: 1}, api.ErrRange},
		{api.Params{Kind: kindCountMin, Depth: 8, Size: 65, Seed: 1}, api.ErrRange},
		{api.Params{Kind: kindLogLog, Size: 1}, api.ErrRange},
		{api.Params{Kind: kindLogLog, Size: 2}, api.OK},
		{api.Params{Kind: kindLogLog, Size: 8, Seed: 5}, api.OK},
		{api.Params{Kind: kindLogLog, Size: 9, Seed: 5}, api.ErrRange},
		{api.Params{Kind: kindLogLog, Size: 8, Depth: 1}, api.ErrKind},
		{api.Params{Kind: kindLogLog, Size: 9, Depth: 1}, api.ErrRange},
		{api.Params{Kind: kindTop}, api.ErrRange},
		{api.Params{Kind: kindTop, Size: 1}, api.OK},
		{api.Params{Kind: kindTop, Size: 32}, api.OK},
		{api.Params{Kind: kindTop, Size: 33}, api.ErrRange},
		{api.Params{Kind: kindTop, Size: 33, Seed: 1}, api.ErrRange},
		{api.Params{Kind: kindTop, Size: 32, Seed: 1}, api.ErrKind},
		{api.Params{Kind: kindTop, Size: 32, Depth: -1}, api.ErrKind},
		{api.Params{Kind: kindFrequent}, api.ErrRange},
		{api.Params{Kind: kindFrequent, Size: 1}, api.OK},
		{api.Params{Kind: kindFrequent, Size: 32}, api.OK},
		{api.Params{Kind: kindFrequent, Size: 33}, api.ErrRange},
		{api.Params{Kind: kindFrequent, Size: 1, Depth: 1}, api.ErrKind},
		{api.Params{Kind: kindFrequent, Size: 1, Seed: 1}, api.ErrKind},
		{api.Params{Kind: kindRanks}, api.ErrRange},
		{api.Params{Kind: kindRanks, Size: 1}, api.ErrRange},
		{api.Params{Kind: kindRanks, Size: 2}, api.OK},
		{api.Params{Kind: kindRanks, Size: 31}, api.ErrRange},
		{api.Params{Kind: kindRanks, Size: 32}, api.OK},
		{api.Params{Kind: kindRanks, Size: 34}, api.ErrRange},
		{api.Params{Kind: kindRanks, Size: -2}, api.ErrRange},
		{api.Params{Kind: kindRanks, Size: 3, Depth: 1}, api.ErrRange},
		{api.Params{Kind: kindRanks, Size: 4, Depth: 1}, api.ErrKind},
		{api.Params{Kind: kindRanks, Size: 4, Seed: 1 << 63}, api.ErrKind},
	} {
		if e := ValidateParams(x.p); e != x.e {
			t.Errorf("ValidateParams(%v) = %d, want %d", x.p, e, x.e)
		}
	}
}

func TestNew(t *testing.T) {
	for _, p := range anyParams() {
		want := paramsError(p)
		if e := ValidateParams(p); e != want {
			t.Errorf("ValidateParams(%v) = %d, want %d", p, e, want)
		}
		s, e := New(p)
		if e != want || e != api.OK && !isZero(s) || e == api.OK && !same(s, emptySketch(p)) {
			t.Errorf("New(%v) = %v, %d; want error %d", p, s, e, want)
		}
		if e == api.OK && Validate(s) != api.OK {
			t.Errorf("Validate(%v) = %d", s, Validate(s))
		}
	}
}

func TestValidateAccepts(t *testing.T) {
	for _, s := range goodSketches() {
		for _, s := range []api.Sketch{s, saturated(s)} {
			if e := Validate(s); e != api.OK {
				t.Errorf("Validate(%v) = %d", s, e)
			}
			if u := withEmptyLists(s); Validate(u) != api.OK {
				t.Errorf("Validate(%v) with empty lists = %d", u, Validate(u))
			}
		}
	}
}

// withEmptyLists replaces all nil lists of the fields by empty ones with spare
// capacity.
func withEmptyLists(s api.Sketch) api.Sketch {
	if s.CountMin.Cells == nil {
		s.CountMin.Cells = make([]int, 0, 3)
	}
	if s.LogLog.Registers == nil {
		s.LogLog.Registers = make([]int, 0, 3)
	}
	if s.Top.Entries == nil {
		s.Top.Entries = make([]api.Entry, 0, 3)
	}
	if s.Frequent.Entries == nil {
		s.Frequent.Entries = make([]api.Entry, 0, 3)
	}
	if s.Ranks.Levels == nil {
		s.Ranks.Levels = make([][]string, 0, 3)
	}
	return s
}

func TestValidateRefuses(t *testing.T) {
	for _, x := range append(badSketches(), faultPairs()...) {
		if e := Validate(x.s); e != x.e {
			t.Errorf("Validate(%v) = %d, want %d", x.s, e, x.e)
		}
	}
}

func TestValidateOfEachOtherKind(t *testing.T) {
	for _, s := range goodSketches() {
		for kind := kindTally; kind <= kindRanks; kind++ {
			if u := s; kind != s.Params.Kind {
				u.Params.Kind = kind
				// The error depends on the kind, but there always is one.
				if e := Validate(u); e == api.OK {
					t.Errorf("Validate(%v) = OK", u)
				}
			}
		}
	}
}

func TestCompatible(t *testing.T) {
	l := append(goodParams(),
		api.Params{}, api.Params{Kind: 7}, api.Params{Kind: -1}, api.Params{Kind: kindTally, Size: 1},
		api.Params{Kind: kindTop, Size: 2, Depth: 1}, api.Params{Kind: kindTop, Size: 2, Seed: 1},
		api.Params{Kind: kindRanks, Size: 3}, api.Params{Kind: kindRanks, Size: math.MinInt})
	for i, p := range l {
		for k, q := range l {
			// Nothing but the parameters counts.
			a, b := api.Sketch{Params: p, Tally: api.Tally{Total: i}}, api.Sketch{Params: q, Top: api.Top{Size: k}}
			if got := Compatible(a, b); got != (i == k) {
				t.Errorf("Compatible(%v, %v) = %t", p, q, got)
			}
		}
	}
	for _, a := range goodSketches() {
		for _, b := range goodSketches() {
			if got := Compatible(a, b); got != (a.Params == b.Params) {
				t.Errorf("Compatible(%v, %v) = %t", a, b, got)
			}
		}
	}
}

func TestSaturated(t *testing.T) {
	flags := []func(s *api.Sketch) *bool{
		kindTally:    func(s *api.Sketch) *bool { return &s.Tally.Saturated },
		kindCountMin: func(s *api.Sketch) *bool { return &s.CountMin.Saturated },
		kindLogLog:   func(*api.Sketch) *bool { return new(bool) },
		kindTop:      func(s *api.Sketch) *bool { return &s.Top.Saturated },
		kindFrequent: func(s *api.Sketch) *bool { return &s.Frequent.Saturated },
		kindRanks:    func(s *api.Sketch) *bool { return &s.Ranks.Saturated },
	}
	for _, kind := range []int{math.MinInt, -1, 0, 1, 2, 3, 4, 5, 6, 7, 256 + 1, math.MaxInt} {
		for set := kindTally; set <= kindRanks; set++ {
			one := api.Sketch{Params: api.Params{Kind: kind}}
			*flags[set](&one) = true
			if got, want := Saturated(one), set == kind && kind != kindLogLog; got != want {
				t.Errorf("Saturated of kind %d with the flag of kind %d = %t", kind, set, got)
			}
			others := api.Sketch{Params: api.Params{Kind: kind}}
			for i := kindTally; i <= kindRanks; i++ {
				*flags[i](&others) = i != kind
			}
			if Saturated(others) {
				t.Errorf("Saturated of kind %d with all other flags", kind)
			}
		}
	}
	for _, s := range goodSketches() {
		if got := Saturated(saturated(s)); got != (s.Params.Kind != kindLogLog) {
			t.Errorf("Saturated(%v) = %t", saturated(s), got)
		}
	}
}

func TestUnits(t *testing.T) {
	// Every field has a number of units of its own, and none is valid.
	s := api.Sketch{
		Tally:    api.Tally{Total: -1, Items: 77},
		CountMin: api.CountMin{Depth: 4, Size: 5, Cells: make([]int, 11)},
		LogLog:   api.LogLog{Precision: 3, Registers: make([]int, 13)},
		Top:      api.Top{Size: 2, Entries: make([]api.Entry, 16)},
		Frequent: api.Frequent{Size: 99, Entries: make([]api.Entry, 40)},
		Ranks:    api.Ranks{Size: -1, Total: 7, Levels: [][]string{nil, {"a", "b"}, {}, {"a"}, make([]string, 50), nil}},
	}
	for kind, want := range map[int]int{
		math.MinInt: 0, -1: 0, 0: 0, kindTally: 1, kindCountMin: 11, kindLogLog: 13,
		kindTop: 17, kindFrequent: 41, kindRanks: 54, 7: 0, 256 + 1: 0, math.MaxInt: 0,
	} {
		s.Params = api.Params{Kind: kind, Size: 3, Depth: 2}
		if n := Units(s); n != want {
			t.Errorf("Units of kind %d = %d, want %d", kind, n, want)
		}
	}
	for _, x := range []struct {
		p    api.Params
		want int
	}{
		{api.Params{Kind: kindTally}, 1},
		{api.Params{Kind: kindCountMin, Depth: 1, Size: 1}, 1},
		{api.Params{Kind: kindCountMin, Depth: 2, Size: 3}, 6},
		{api.Params{Kind: kindCountMin, Depth: 8, Size: 64}, 512},
		{api.Params{Kind: kindLogLog, Size: 2}, 4},
		{api.Params{Kind: kindLogLog, Size: 8}, 256},
		{api.Params{Kind: kindTop, Size: 32}, 1},
		{api.Params{Kind: kindFrequent, Size: 32}, 1},
		{api.Params{Kind: kindRanks, Size: 32}, 1},
	} {
		s, _ := New(x.p)
		if n := Units(s); n != x.want {
			t.Errorf("Units of the empty %v = %d, want %d", x.p, n, x.want)
		}
	}
	if n := Units(api.Sketch{Params: api.Params{Kind: kindCountMin, Depth: 2, Size: 3}}); n != 0 {
		t.Errorf("Units without cells = %d", n)
	}
}

// checkInsert compares an insertion with P12.4.
func checkInsert(t *testing.T, s api.Sketch, x api.Item, flips []byte, at int) {
	t.Helper()
	want, wantNext := inserted(s, x, flips, at)
	u, next, e := Insert(s, x, flips, at)
	if !same(u, want) || next != wantNext || e != api.OK {
		t.Errorf("Insert(%v, %v, %v, %d) = %v, %d, %d; want %v, %d", s, x, flips, at, u, next, e, want, wantNext)
	}
	if e := Validate(u); e != api.OK {
		t.Errorf("Validate(%v) = %d", u, e)
	}
}

func TestInsertIntoEachKind(t *testing.T) {
	x := api.Item{Key: "b", Weight: 3}
	for _, y := range []struct{ s, want api.Sketch }{
		{
			api.Sketch{Params: api.Params{Kind: kindTally}},
			api.Sketch{Params: api.Params{Kind: kindTally}, Tally: api.Tally{Total: 3, Items: 1}},
		},
		{
			emptySketch(api.Params{Kind: kindCountMin, Depth: 2, Size: 1, Seed: 4}),
			api.Sketch{
				Params:   api.Params{Kind: kindCountMin, Depth: 2, Size: 1, Seed: 4},
				CountMin: api.CountMin{Depth: 2, Size: 1, Seed: 4, Cells: []int{3, 3}},
			},
		},
		{
			api.Sketch{Params: api.Params{Kind: kindTop, Size: 1}, Top: api.Top{Size: 1, Total: 2, Entries: []api.Entry{{Key: "a", Count: 2}}}},
			api.Sketch{Params: api.Params{Kind: kindTop, Size: 1}, Top: api.Top{Size: 1, Total: 5, Entries: []api.Entry{{Key: "b", Count: 5, Error: 2}}}},
		},
		{
			api.Sketch{Params: api.Params{Kind: kindFrequent, Size: 1}, Frequent: api.Frequent{Size: 1, Total: 2, Entries: []api.Entry{{Key: "a", Count: 2}}}},
			api.Sketch{Params: api.Params{Kind: kindFrequent, Size: 1}, Frequent: api.Frequent{Size: 1, Total: 5, Lost: 2, Entries: []api.Entry{{Key: "b", Count: 1}}}},
		},
		{
			api.Sketch{Params: api.Params{Kind: kindRanks, Size: 4}, Ranks: api.Ranks{Size: 4, Total: 1, Levels: [][]string{{"a"}}}},
			api.Sketch{Params: api.Params{Kind: kindRanks, Size: 4}, Ranks: api.Ranks{Size: 4, Total: 4, Levels: [][]string{{"a", "b"}, {"b"}}}},
		},
	} {
		u, next, e := Insert(y.s, x, []byte{255}, 6)
		if !same(u, y.want) || next != 6 || e != api.OK {
			t.Errorf("Insert(%v, %v) = %v, %d, %d; want %v", y.s, x, u, next, e, y.want)
		}
	}
	l := emptySketch(api.Params{Kind: kindLogLog, Size: 3, Seed: 9})
	u, next, e := Insert(l, x, []byte{255}, 6)
	register, rank, _ := loglog.Position(3, 9, "b")
	l.LogLog.Registers[register] = rank
	if !same(u, l) || next != 6 || e != api.OK {
		t.Errorf("Insert into registers = %v, %d, %d; want %v", u, next, e, l)
	}
}

func TestInsertFlipsCoins(t *testing.T) {
	p := api.Params{Kind: kindRanks, Size: 2}
	for _, x := range []struct {
		flips []byte
		at    int
		key   string
	}{
		{nil, 0, "a"},
		{nil, 3, "a"},
		{[]byte{0x10}, 3, "b"},
		{[]byte{0xef}, 3, "a"},
		{[]byte{0, 0x80}, 8, "b"},
		{[]byte{255}, 8, "a"},
		{[]byte{255}, mostAt, "a"},
	} {
		s := api.Sketch{Params: p, Ranks: api.Ranks{Size: 2, Total: 1, Levels: [][]string{{"a"}}}}
		want := api.Sketch{Params: p, Ranks: api.Ranks{Size: 2, Total: 2, Slack: 1, Levels: [][]string{nil, {x.key}}}}
		u, next, e := Insert(s, api.Item{Key: "b", Weight: 1}, x.flips, x.at)
		if !same(u, want) || next != x.at+1 || e != api.OK {
			t.Errorf("Insert with coins %v at %d = %v, %d, %d; want %v", x.flips, x.at, u, next, e, want)
		}
		b := api.Sketch{Params: p, Ranks: api.Ranks{Size: 2, Total: 1, Levels: [][]string{{"b"}}}}
		u, next, e = Merge(s, b, x.flips, x.at)
		if !same(u, want) || next != x.at+1 || e != api.OK {
			t.Errorf("Merge with coins %v at %d = %v, %d, %d; want %v", x.flips, x.at, u, next, e, want)
		}
	}
}

func TestInsertOfEachItem(t *testing.T) {
	items := append(someItems(20, 7), api.Item{Key: "a", Weight: 1}, api.Item{Key: strings.Repeat("\x00", 32), Weight: mostOf})
	for i, s := range goodSketches() {
		for k, x := range items {
			at := []int{0, 1, 17, 60, 200, mostAt - 1, mostAt}[(i+k)%7]
			checkInsert(t, s, x, someCoins(i+k), at)
			checkInsert(t, saturated(s), x, someCoins(i), at)
			checkInsert(t, withEmptyLists(s), x, nil, at)
		}
	}
}

func TestInsertSaturates(t *testing.T) {
	x := api.Item{Key: "a", Weight: mostOf}
	for _, p := range goodParams() {
		s, _ := New(p)
		s, _, _ = Insert(s, x, nil, 0)
		if Saturated(s) {
			t.Errorf("%v is saturated", s)
		}
		s, _, _ = Insert(s, x, nil, 0)
		if got := Saturated(s); got != (p.Kind == kindTally || p.Kind == kindCountMin) {
			t.Errorf("Saturated(%v) = %t", s, got)
		}
		for range 300 {
			s, _, _ = Insert(s, x, nil, 0)
		}
		if got := Saturated(s); got != (p.Kind != kindLogLog) {
			t.Errorf("Saturated(%v) = %t", s, got)
		}
	}
}

// badPositions are no positions of coins.
func badPositions() []int {
	return []int{-1, mostAt + 1, 1 << 31, 1 << 32, math.MinInt, math.MinInt + 1, math.MaxInt}
}

func TestErrorsOfInsert(t *testing.T) {
	check := func(s api.Sketch, x api.Item, at int, want api.Errno) {
		t.Helper()
		u, next, e := Insert(s, x, []byte{255}, at)
		if e != want || next != 0 || !isZero(u) {
			t.Errorf("Insert(%v, %v, at %d) = %v, %d, %d; want error %d", s, x, at, u, next, e, want)
		}
	}
	good := api.Item{Key: "a", Weight: 1}
	items := []struct {
		x api.Item
		e api.Errno
	}{
		{api.Item{}, api.ErrKey},
		{api.Item{Weight: 1}, api.ErrKey},
		{api.Item{Key: strings.Repeat("k", 33), Weight: -1}, api.ErrKey},
		{api.Item{Key: "a"}, api.ErrRange},
		{api.Item{Key: "a", Weight: -1}, api.ErrRange},
		{api.Item{Key: "a", Weight: mostOf + 1}, api.ErrRange},
		{api.Item{Key: "a", Weight: math.MaxInt}, api.ErrRange},
	}
	for _, s := range goodSketches() {
		for _, y := range items {
			for _, at := range append(badPositions(), 0, mostAt) {
				check(s, y.x, at, y.e)
			}
		}
		for _, at := range badPositions() {
			check(s, good, at, api.ErrRange)
		}
	}
	for _, x := range badSketches() {
		check(x.s, good, 0, x.e)
		check(x.s, good, -1, x.e)
		check(x.s, api.Item{}, 0, x.e)
		check(x.s, api.Item{Key: "a"}, mostAt+1, x.e)
	}
}

func TestMergeOfEachKind(t *testing.T) {
	tallied := api.Sketch{Params: api.Params{Kind: kindTally}, Tally: api.Tally{Total: 5, Items: 2}}
	doubled := api.Sketch{Params: api.Params{Kind: kindTally}, Tally: api.Tally{Total: 10, Items: 4}}
	if s, next, e := Merge(tallied, tallied, []byte{255}, 9); !same(s, doubled) || next != 9 || e != api.OK {
		t.Errorf("Merge(%v, itself) = %v, %d, %d", tallied, s, next, e)
	}
	l := goodSketches()
	for i, a := range l {
		for k, b := range l {
			if a.Params != b.Params {
				continue
			}
			at := []int{0, 1, 17, 60, 200, mostAt - 1, mostAt}[(i+k)%7]
			flips := someCoins(i + k)
			for _, pair := range [][2]api.Sketch{{a, b}, {saturated(a), b}, {a, saturated(b)}, {withEmptyLists(a), withEmptyLists(b)}} {
				want, wantNext := merged(pair[0], pair[1], flips, at)
				s, next, e := Merge(pair[0], pair[1], flips, at)
				if !same(s, want) || next != wantNext || e != api.OK {
					t.Errorf("Merge(%v, %v, %v, %d) = %v, %d, %d; want %v, %d", pair[0], pair[1], flips, at, s, next, e, want, wantNext)
				}
				if e := Validate(s); e != api.OK {
					t.Errorf("Validate(%v) = %d", s, e)
				}
			}
		}
	}
}

func TestMergeWithAnEmptySketch(t *testing.T) {
	for _, s := range goodSketches() {
		none := emptySketch(s.Params)
		for _, pair := range [][2]api.Sketch{{s, none}, {none, s}} {
			if u, next, e := Merge(pair[0], pair[1], []byte{255}, 3); !same(u, s) || next != 3 || e != api.OK {
				t.Errorf("Merge(%v, %v) = %v, %d, %d", pair[0], pair[1], u, next, e)
			}
		}
	}
}

func TestErrorsOfMerge(t *testing.T) {
	check := func(a, b api.Sketch, at int, want api.Errno) {
		t.Helper()
		s, next, e := Merge(a, b, []byte{255}, at)
		if e != want || next != 0 || !isZero(s) {
			t.Errorf("Merge(%v, %v, at %d) = %v, %d, %d; want error %d", a, b, at, s, next, e, want)
		}
	}
	for _, p := range goodParams() {
		a := filled(p, 4, 4)
		for _, q := range goodParams() {
			b := filled(q, 4, 4)
			for _, at := range append(badPositions(), 0, mostAt) {
				if p != q {
					check(a, b, at, api.ErrKind)
				} else if at < 0 || at > mostAt {
					check(a, b, at, api.ErrRange)
				}
			}
		}
	}
	good := filled(api.Params{Kind: kindTop, Size: 2}, 4, 4)
	l := badSketches()
	for i, x := range l {
		y := l[word(i)%len(l)]
		for _, at := range []int{0, -1} {
			check(good, x.s, at, x.e)
			check(x.s, good, at, x.e)
			check(x.s, x.s, at, x.e)
			check(x.s, y.s, at, x.e)
			check(y.s, x.s, at, y.e)
		}
		if i > 0 {
			check(filled(goodParams()[i%len(goodParams())], 2, 2), x.s, 0, x.e)
		}
	}
}

// codeOf is wire.EncodeUint of a number that is not negative.
func codeOf(n int) []byte {
	if n < 248 {
		return []byte{byte(n)}
	}
	digits := bytes.TrimLeft(binary.BigEndian.AppendUint64(nil, uint64(n)), "\x00")
	return append([]byte{byte(247 + len(digits))}, digits...)
}

// checked appends the checksum of P3.4.
func checked(b []byte) []byte {
	u, v := 1, 0
	for _, c := range b {
		u = (u + int(c)) % 65521
		v = (v + u) % 65521
	}
	return binary.BigEndian.AppendUint32(slices.Clone(b), uint32(v*65536+u))
}

// framed is wire.Frame of a short body.
func framed(tag byte, body ...byte) []byte {
	return checked(slices.Concat([]byte{tag}, codeOf(len(body)), body))
}

// fieldCode is Encode of the field of a valid sketch.
func fieldCode(s api.Sketch) []byte {
	switch s.Params.Kind {
	case kindTally:
		return must(tally.Encode(s.Tally))
	case kindCountMin:
		return must(countmin.Encode(s.CountMin))
	case kindLogLog:
		return must(loglog.Encode(s.LogLog))
	case kindTop:
		return must(topk.Encode(s.Top))
	case kindFrequent:
		return must(frequent.Encode(s.Frequent))
	}
	return must(ranks.Encode(s.Ranks))
}

// joined is the encoding of a valid sketch.
func joined(s api.Sketch) []byte {
	return framed(0x53, append([]byte{byte(s.Params.Kind)}, fieldCode(s)...)...)
}

func checkCode(t *testing.T, s api.Sketch, want []byte) {
	t.Helper()
	if b, e := Encode(s); e != api.OK || !bytes.Equal(b, want) {
		t.Errorf("Encode(%v) = %v, %d; want %v", s, b, e, want)
	}
	if again, e := Decode(want); e != api.OK || !same(again, s) {
		t.Errorf("Decode(%v) = %v, %d; want %v", want, again, e, s)
	}
}

// The checksums of this test were computed outside of the program.
func TestEncode(t *testing.T) {
	for _, x := range []struct {
		s    api.Sketch
		want []byte
	}{
		{api.Sketch{Params: api.Params{Kind: kindTally}}, []byte{83, 4, 1, 0, 0, 0, 2, 16, 0, 89}},
		{
			api.Sketch{Params: api.Params{Kind: kindTally}, Tally: api.Tally{Total: 3, Items: 1}},
			[]byte{83, 4, 1, 3, 1, 0, 2, 27, 0, 93},
		},
		{
			api.Sketch{Params: api.Params{Kind: kindTally}, Tally: api.Tally{Total: mostOf, Items: mostOf, Saturated: true}},
			[]byte{83, 12, 1, 251, 255, 255, 255, 255, 251, 255, 255, 255, 255, 1, 69, 188, 10, 80},
		},
		{
			api.Sketch{
				Params:   api.Params{Kind: kindCountMin, Depth: 1, Size: 2, Seed: 0x0102030405060708},
				CountMin: api.CountMin{Depth: 1, Size: 2, Seed: 0x0102030405060708, Cells: []int{7, 300}, Saturated: true},
			},
			[]byte{83, 16, 2, 1, 2, 1, 2, 3, 4, 5, 6, 7, 8, 7, 249, 1, 44, 1, 12, 210, 1, 187},
		},
		{
			api.Sketch{
				Params: api.Params{Kind: kindLogLog, Size: 2, Seed: 9},
				LogLog: api.LogLog{Precision: 2, Seed: 9, Registers: []int{63, 0, 1, 62}},
			},
			[]byte{83, 14, 3, 2, 0, 0, 0, 0, 0, 0, 0, 9, 63, 0, 1, 62, 7, 191, 0, 238},
		},
		{
			api.Sketch{
				Params: api.Params{Kind: kindTop, Size: 2},
				Top:    api.Top{Size: 2, Total: 3, Entries: []api.Entry{{Key: "k", Count: 3, Error: 2}}},
			},
			[]byte{83, 9, 4, 2, 3, 0, 1, 1, 107, 3, 2, 5, 145, 0, 216},
		},
		{
			api.Sketch{
				Params:   api.Params{Kind: kindFrequent, Size: 2},
				Frequent: api.Frequent{Size: 2, Total: 4, Lost: 1, Entries: []api.Entry{{Key: "k", Count: 2}}, Saturated: true},
			},
			[]byte{83, 9, 5, 2, 4, 1, 1, 1, 1, 107, 2, 5, 57, 0, 217},
		},
		{
			api.Sketch{
				Params: api.Params{Kind: kindRanks, Size: 2},
				Ranks:  api.Ranks{Size: 2, Total: 2, Slack: 1, Levels: [][]string{nil, {"b"}}, Saturated: true},
			},
			[]byte{83, 10, 6, 2, 2, 1, 1, 2, 0, 1, 1, 98, 5, 58, 0, 208},
		},
	} {
		checkCode(t, x.s, x.want)
		checkCode(t, withEmptyLists(x.s), x.want)
	}
	for _, x := range append(badSketches(), faultPairs()...) {
		if b, e := Encode(x.s); e != x.e || len(b) > 0 {
			t.Errorf("Encode(%v) = %v, %d; want error %d", x.s, b, e, x.e)
		}
	}
}

func TestEncodeOfEachSketch(t *testing.T) {
	for _, s := range goodSketches() {
		checkCode(t, s, joined(s))
		checkCode(t, saturated(s), joined(saturated(s)))
	}
	// The longest sketch.
	s := emptySketch(api.Params{Kind: kindCountMin, Depth: 8, Size: 64, Seed: 5})
	for i := range s.CountMin.Cells {
		s.CountMin.Cells[i] = mostOf
	}
	checkCode(t, s, joined(s))
}

func TestDecodeRefuses(t *testing.T) {
	plain := joined(filled(api.Params{Kind: kindTally}, 2, 2))
	mix := func(head []byte, tail ...byte) []byte { return append(slices.Clone(head), tail...) }
	for _, x := range []struct {
		b []byte
		e api.Errno
	}{
		// The errors of the frame.
		{nil, api.ErrCut},
		{[]byte{0x53}, api.ErrCut},
		{[]byte{0x53, 4, 1, 0, 0, 0}, api.ErrCut},
		{[]byte{0x54}, api.ErrCut},
		{[]byte{0x53, 248, 4, 1, 0, 0, 0, 2, 16, 0, 89}, api.ErrForm},
		{[]byte{0x53, 250, 16, 0, 1}, api.ErrForm},
		{[]byte{0x53, 250, 16, 0, 0}, api.ErrCut},
		{[]byte{83, 4, 1, 0, 0, 0, 2, 16, 0, 90}, api.ErrChecksum},
		{[]byte{83, 4, 1, 0, 0, 1, 2, 16, 0, 89}, api.ErrChecksum},
		{[]byte{84, 4, 1, 0, 0, 0, 2, 16, 0, 89}, api.ErrChecksum},
		{[]byte{83, 4, 1, 0, 0, 0, 2, 16, 0, 90, 0}, api.ErrChecksum},
		// Another tag, and bytes behind the frame.
		{framed(0x52, 1, 0, 0, 0), api.ErrForm},
		{framed(0x54, 1, 0, 0, 0), api.ErrForm},
		{framed(0, 1, 0, 0, 0), api.ErrForm},
		{mix(plain, 0), api.ErrForm},
		{mix(plain, plain...), api.ErrForm},
		// Kinds.
		{framed(0x53), api.ErrForm},
		{framed(0x53, 0), api.ErrForm},
		{framed(0x53, 0, 0, 0, 0), api.ErrForm},
		{framed(0x53, 7, 0, 0, 0), api.ErrForm},
		{framed(0x53, 247, 0, 0, 0), api.ErrForm},
		{framed(0x53, 248, 1, 0, 0, 0), api.ErrForm},
		{framed(0x53, 249, 0, 1, 0, 0, 0), api.ErrForm},
		{framed(0x53, 249, 1, 1, 0, 0, 0), api.ErrForm},
		{framed(0x53, 249, 1), api.ErrForm},
		{framed(0x53, 255, 64, 0, 0, 0, 0, 0, 0, 0, 0, 0, 0), api.ErrForm},
		{framed(0x53, 255, 127, 255, 255, 255, 255, 255, 255, 255, 0, 0, 0), api.ErrForm},
		// Fields.
		{framed(0x53, 1), api.ErrForm},
		{framed(0x53, 1, 0, 0), api.ErrForm},
		{framed(0x53, 1, 0, 0, 0, 0), api.ErrForm},
		{framed(0x53, 1, 0, 1, 0), api.ErrForm},
		{framed(0x53, 1, 1, 1, 2), api.ErrForm},
		{framed(0x53, 2, 0, 0, 0, 0, 0, 0, 0, 0, 0, 0, 0), api.ErrForm},
		{framed(0x53, 3, 1, 0, 0, 0, 0, 0, 0, 0, 0, 0, 0), api.ErrForm},
		{framed(0x53, 4, 33, 0, 0, 0), api.ErrForm},
		{framed(0x53, 5, 0, 0, 0, 0, 0), api.ErrForm},
		{framed(0x53, 6, 3, 0, 0, 0, 0), api.ErrForm},
		{framed(0x53, 6, 2, 1, 0, 0, 0), api.ErrForm},
	} {
		if s, e := Decode(x.b); e != x.e || !isZero(s) {
			t.Errorf("Decode(%v) = %v, %d; want error %d", x.b, s, e, x.e)
		}
	}
}

func TestDecodeOfCutBytes(t *testing.T) {
	for _, s := range goodSketches() {
		b := joined(s)
		for i := range b {
			// The missing bytes still follow, as spare capacity.
			if u, e := Decode(b[:i]); e != api.ErrCut || !isZero(u) {
				t.Errorf("Decode(%v) = %v, %d", b[:i], u, e)
			}
		}
		for _, x := range []byte{0, 1, 0x53, 248, 255} {
			if u, e := Decode(append(slices.Clone(b), x)); e != api.ErrForm || !isZero(u) {
				t.Errorf("Decode(%v and %d) = %v, %d", b, x, u, e)
			}
		}
		// A field that is too short or too long, in a whole frame.
		body := append([]byte{byte(s.Params.Kind)}, fieldCode(s)...)
		for i := range body {
			if u, e := Decode(framed(0x53, body[:i]...)); e != api.ErrForm || !isZero(u) {
				t.Errorf("Decode of the body %v = %v, %d", body[:i], u, e)
			}
		}
		for _, x := range []byte{0, 1, 248, 255} {
			if u, e := Decode(framed(0x53, append(slices.Clone(body), x)...)); e != api.ErrForm || !isZero(u) {
				t.Errorf("Decode of the body %v and %d = %v, %d", body, x, u, e)
			}
		}
	}
}

func TestDecodeOfChangedBytes(t *testing.T) {
	for i, p := range goodParams() {
		if p.Size > 8 {
			continue
		}
		b := joined(filled(p, 3, i))
		for at := range b {
			for x := range 256 {
				changed := slices.Clone(b)
				changed[at] = byte(x)
				checkExact(t, changed)
				// The same change with a checksum that fits.
				if end := len(b) - 4; at < end {
					checkExact(t, checked(changed[:end]))
				}
			}
		}
	}
}

// checkExact checks that Decode finds a sketch only if its encoding is b, and
// that its errors are those of P12.6.
func checkExact(t *testing.T, b []byte) {
	t.Helper()
	s, e := Decode(b)
	if e == api.OK {
		if Validate(s) != api.OK || !bytes.Equal(joined(s), b) {
			t.Errorf("Decode(%v) = %v", b, s)
		}
		return
	}
	want := api.ErrForm
	if _, _, _, wireError := wire.Unframe(b); wireError != api.OK {
		want = wireError
	}
	if e != want || !isZero(s) {
		t.Errorf("Decode(%v) = %v, %d; want error %d", b, s, e, want)
	}
}

// guarded returns a copy of s whose lists have spare capacity; all returns
// copies of all that they contain, the spare capacity included.
func guarded(s api.Sketch) (g api.Sketch, all func() api.Sketch) {
	g = s
	cells := append(slices.Clone(s.CountMin.Cells), 41, 42)
	registers := append(slices.Clone(s.LogLog.Registers), 41, 42)
	top := append(slices.Clone(s.Top.Entries), api.Entry{Key: "spare"})
	often := append(slices.Clone(s.Frequent.Entries), api.Entry{Key: "spare"})
	var wide [][]string
	for _, keys := range s.Ranks.Levels {
		wide = append(wide, append(slices.Clone(keys), "spare"))
	}
	levels := append(slices.Clone(wide), []string{"spare"})
	for i, keys := range s.Ranks.Levels {
		levels[i] = wide[i][:len(keys)]
	}
	g.CountMin.Cells = cells[:len(cells)-2]
	g.LogLog.Registers = registers[:len(registers)-2]
	g.Top.Entries = top[:len(top)-1]
	g.Frequent.Entries = often[:len(often)-1]
	g.Ranks.Levels = levels[:len(levels)-1]
	return g, func() api.Sketch {
		return api.Sketch{
			CountMin: api.CountMin{Cells: slices.Clone(cells)},
			LogLog:   api.LogLog{Registers: slices.Clone(registers)},
			Top:      api.Top{Entries: slices.Clone(top)},
			Frequent: api.Frequent{Entries: slices.Clone(often)},
			Ranks:    api.Ranks{Levels: append(copyOf(levels), copyOf(wide)...)},
		}
	}
}

func copyOf(levels [][]string) [][]string {
	var l [][]string
	for _, keys := range levels {
		l = append(l, slices.Clone(keys))
	}
	return l
}

// spoil changes everything that the lists of a result reach.
func spoil(s api.Sketch) {
	for _, l := range [][]int{s.CountMin.Cells, s.LogLog.Registers} {
		l = l[:cap(l)]
		for i := range l {
			l[i] = -9
		}
	}
	for _, l := range [][]api.Entry{s.Top.Entries, s.Frequent.Entries} {
		l = l[:cap(l)]
		for i := range l {
			l[i] = api.Entry{Key: "spoiled"}
		}
	}
	levels := s.Ranks.Levels[:cap(s.Ranks.Levels)]
	for i, keys := range levels {
		keys = keys[:cap(keys)]
		for k := range keys {
			keys[k] = "spoiled"
		}
		levels[i] = []string{"spoiled"}
	}
}

func TestArgumentsAreNotChanged(t *testing.T) {
	flips := append(someCoins(1), 1, 2, 3)
	before := slices.Clone(flips)
	for i, p := range goodParams() {
		for _, n := range []int{0, 1, 6, 40} {
			s, all := guarded(filled(p, n, i))
			other, otherAll := guarded(filled(p, 20, i+1))
			was, otherWas := all(), otherAll()
			grown, _, _ := Insert(s, api.Item{Key: "key", Weight: 7}, flips[:8], n)
			sum, _, _ := Merge(s, other, flips[:8], n)
			twice, _, _ := Merge(s, s, flips[:8], n)
			ValidateParams(p)
			Validate(s)
			Compatible(s, other)
			Saturated(s)
			Units(s)
			b, _ := Encode(s)
			clear(b[:cap(b)])
			for _, u := range []api.Sketch{grown, sum, twice} {
				spoil(u)
			}
			if !same(all(), was) || !same(otherAll(), otherWas) || !bytes.Equal(flips, before) {
				t.Errorf("%v became %v, %v became %v; coins: %v", was, all(), otherWas, otherAll(), flips)
			}
		}
	}
}

func TestResultsAreNotShared(t *testing.T) {
	for i, p := range goodParams() {
		first, _ := New(p)
		spoil(first)
		if second, _ := New(p); !same(second, emptySketch(p)) {
			t.Errorf("New(%v) = %v after a change of an earlier result", p, second)
		}
		s := filled(p, 9, i)
		want := joined(s)
		wide := append(slices.Clone(want), 9, 9, 9)
		kept := slices.Clone(wide)
		u, e := Decode(wide[:len(want)])
		if e != api.OK || !same(u, s) || !bytes.Equal(wide, kept) {
			t.Errorf("Decode with spare capacity is %v, %d", u, e)
		}
		clear(wide)
		if !same(u, s) {
			t.Errorf("Decode keeps its argument: %v", u)
		}
		spoil(u)
		if again, _ := Encode(s); !bytes.Equal(again, want) {
			t.Errorf("Encode(%v) = %v after a change of another sketch", s, again)
		}
	}
}
