package pins

import (
	"maps"
	"math"
	"math/big"
	"slices"
	"testing"

	"sketchstore/api"
)

// The limits of the chapter, written once more so that a wrong one shows.
const (
	mostCount = 1024
	mostTotal = 1 << 40
)

// list returns a list of pins; its arguments are commits and counts in turn.
func list(numbers ...int) []api.Pin {
	var l []api.Pin
	for i := 0; i+1 < len(numbers); i += 2 {
		l = append(l, api.Pin{Commit: numbers[i], Count: numbers[i+1]})
	}
	return l
}

// wideCounts are counts that are out of range, above it and below it.
var wideCounts = []int{
	mostCount + 1, mostCount + 2, 2 * mostCount, 1<<16 + 1, 1 << 32, 1<<32 + 1, math.MaxInt - 1, math.MaxInt,
	0, -1, -2, -mostCount, 1 - 1<<16, 1 - 1<<32, math.MinInt + 1, math.MinInt,
}

var negativeNumbers = []int{-1, -2, -mostCount, 1 - 1<<16, -1 << 32, 1 - 1<<32, math.MinInt + 1, math.MinInt}

// invalid is a list with the error of Validate.
type invalid struct {
	l []api.Pin
	e api.Errno
}

// invalidLists returns every kind of a fault at every place of a list.
func invalidLists() []invalid {
	var all []invalid
	good := list(0, 1, 5, mostCount, 6, 2, 1<<20, 3, math.MaxInt, 1)
	put := func(i int, p api.Pin, e api.Errno) {
		l := slices.Clone(good)
		l[i] = p
		all = append(all, invalid{l, e})
	}
	for i, p := range good {
		for _, n := range negativeNumbers {
			put(i, api.Pin{Commit: n, Count: p.Count}, api.ErrRange)
		}
		for _, n := range wideCounts {
			put(i, api.Pin{Commit: p.Commit, Count: n}, api.ErrRange)
		}
		if i > 0 {
			put(i, api.Pin{Commit: good[i-1].Commit, Count: p.Count}, api.ErrOrder)
		}
		if i > 1 {
			put(i, api.Pin{Commit: good[i-1].Commit - 1, Count: p.Count}, api.ErrOrder)
			put(i, api.Pin{Commit: good[i-2].Commit, Count: p.Count}, api.ErrOrder)
			put(i, api.Pin{Commit: 0, Count: p.Count}, api.ErrOrder)
		}
	}
	return append(all,
		// Of two errors of a pin, ErrRange is first.
		invalid{list(5, 1, 4, 0), api.ErrRange},
		invalid{list(5, 1, 5, mostCount+1), api.ErrRange},
		invalid{list(5, 1, -1, 1), api.ErrRange},
		invalid{list(-1, 0), api.ErrRange},
		// Of two faulty pins, the first one counts.
		invalid{list(5, 1, 5, 1, 6, 0), api.ErrOrder},
		invalid{list(5, 1, 4, 1, -1, 1), api.ErrOrder},
		invalid{list(5, 0, 5, 1), api.ErrRange},
		invalid{list(-1, 1, -2, 1), api.ErrRange},
		invalid{list(0, 1, 7, 1, 3, 1, 4, 1), api.ErrOrder},
		invalid{list(math.MaxInt, 1, 0, 1), api.ErrOrder},
		invalid{list(math.MaxInt, 1, math.MinInt, 1), api.ErrRange},
	)
}

// validLists returns lists without a fault.
func validLists() [][]api.Pin {
	var long []api.Pin
	for i := range 3000 {
		long = append(long, api.Pin{Commit: 3 * i, Count: 1 + i%mostCount})
	}
	return [][]api.Pin{
		nil, {}, long,
		list(0, 1), list(1, 1), list(0, mostCount), list(0, mostCount-1),
		list(math.MaxInt, 1), list(math.MaxInt, mostCount), list(math.MaxInt-1, 1, math.MaxInt, 1),
		list(0, 1, 1, 1, 2, 1), list(0, 3, 2, 2, 9, 1), list(5, 1, 1<<20, mostCount, 1<<20+1, mostCount, 1<<32, 7),
	}
}

func TestValidate(t *testing.T) { // P16.1
	for _, l := range validLists() {
		if e := Validate(l); e != api.OK {
			t.Errorf("Validate(%v) = %d", l, e)
		}
	}
	for count := 1; count <= mostCount; count++ {
		if e := Validate(list(3, 1, 4, count)); e != api.OK {
			t.Errorf("Validate with the count %d = %d", count, e)
		}
	}
}

func TestValidateOfInvalidLists(t *testing.T) { // P16.1
	for _, x := range invalidLists() {
		if e := Validate(x.l); e != x.e {
			t.Errorf("Validate(%v) = %d; want %d", x.l, e, x.e)
		}
	}
}

func TestInvalidListsForAddAndRemove(t *testing.T) { // P16.2
	for _, x := range invalidLists() {
		// Whether commit is negative, held, held fully or not held counts after
		// the list.
		for _, commit := range []int{math.MinInt, -1, 0, 4, 5, 6, 7, 1 << 20, math.MaxInt} {
			if l, e := Add(x.l, commit); len(l) != 0 || e != x.e {
				t.Errorf("Add(%v, %d) = %v, %d; want %d", x.l, commit, l, e, x.e)
			}
			if l, e := Remove(x.l, commit); len(l) != 0 || e != x.e {
				t.Errorf("Remove(%v, %d) = %v, %d; want %d", x.l, commit, l, e, x.e)
			}
		}
	}
}

// change is a call of Add or Remove and the list that it returns.
type change struct {
	l      []api.Pin
	commit int
	want   []api.Pin
}

func TestAdd(t *testing.T) { // P16.2
	for _, x := range []change{
		{nil, 0, list(0, 1)},
		{nil, 3, list(3, 1)},
		{[]api.Pin{}, math.MaxInt, list(math.MaxInt, 1)},
		{list(3, 1), 3, list(3, 2)},
		{list(3, 1), 0, list(0, 1, 3, 1)},
		{list(3, 1), 2, list(2, 1, 3, 1)},
		{list(3, 1), 4, list(3, 1, 4, 1)},
		{list(3, 1), math.MaxInt, list(3, 1, math.MaxInt, 1)},
		{list(2, 5, 4, 6, 8, 7), 1, list(1, 1, 2, 5, 4, 6, 8, 7)},
		{list(2, 5, 4, 6, 8, 7), 2, list(2, 6, 4, 6, 8, 7)},
		{list(2, 5, 4, 6, 8, 7), 3, list(2, 5, 3, 1, 4, 6, 8, 7)},
		{list(2, 5, 4, 6, 8, 7), 4, list(2, 5, 4, 7, 8, 7)},
		{list(2, 5, 4, 6, 8, 7), 7, list(2, 5, 4, 6, 7, 1, 8, 7)},
		{list(2, 5, 4, 6, 8, 7), 8, list(2, 5, 4, 6, 8, 8)},
		{list(2, 5, 4, 6, 8, 7), 9, list(2, 5, 4, 6, 8, 7, 9, 1)},
		// A pin that is held fully is no obstacle to others.
		{list(2, mostCount, 4, mostCount-1, 8, mostCount), 4, list(2, mostCount, 4, mostCount, 8, mostCount)},
		{list(2, mostCount, 8, mostCount), 4, list(2, mostCount, 4, 1, 8, mostCount)},
		{list(2, mostCount), 0, list(0, 1, 2, mostCount)},
	} {
		if l, e := Add(x.l, x.commit); !slices.Equal(l, x.want) || e != api.OK {
			t.Errorf("Add(%v, %d) = %v, %d; want %v", x.l, x.commit, l, e, x.want)
		}
	}
}

func TestAddUntilTheCommitIsHeldFully(t *testing.T) { // P16.2
	l := list(1, 1, 9, 2)
	for count := 1; count <= mostCount; count++ {
		more, e := Add(l, 5)
		if want := list(1, 1, 5, count, 9, 2); !slices.Equal(more, want) || e != api.OK {
			t.Fatalf("Add(%v, 5) = %v, %d; want %v", l, more, e, want)
		}
		l = more
	}
	if more, e := Add(l, 5); len(more) != 0 || e != api.ErrFull {
		t.Errorf("Add(%v, 5) = %v, %d; want ErrFull", l, more, e)
	}
}

func TestAddWithErrors(t *testing.T) { // P16.2
	for _, l := range validLists() {
		for _, commit := range negativeNumbers {
			if more, e := Add(l, commit); len(more) != 0 || e != api.ErrRange {
				t.Errorf("Add(%v, %d) = %v, %d; want ErrRange", l, commit, more, e)
			}
		}
	}
	for _, l := range [][]api.Pin{
		list(4, mostCount), list(4, mostCount, 5, 1), list(3, 1, 4, mostCount), list(0, 1, 4, mostCount, 9, mostCount),
	} {
		if more, e := Add(l, 4); len(more) != 0 || e != api.ErrFull {
			t.Errorf("Add(%v, 4) = %v, %d; want ErrFull", l, more, e)
		}
	}
}

func TestRemove(t *testing.T) { // P16.2
	for _, x := range []change{
		{list(0, 1), 0, nil},
		{list(3, 1), 3, nil},
		{list(math.MaxInt, 1), math.MaxInt, nil},
		{list(3, 2), 3, list(3, 1)},
		{list(3, mostCount), 3, list(3, mostCount-1)},
		{list(2, 1, 4, 1, 8, 1), 2, list(4, 1, 8, 1)},
		{list(2, 1, 4, 1, 8, 1), 4, list(2, 1, 8, 1)},
		{list(2, 1, 4, 1, 8, 1), 8, list(2, 1, 4, 1)},
		{list(2, 5, 4, 6, 8, 7), 2, list(2, 4, 4, 6, 8, 7)},
		{list(2, 5, 4, 6, 8, 7), 4, list(2, 5, 4, 5, 8, 7)},
		{list(2, 5, 4, 6, 8, 7), 8, list(2, 5, 4, 6, 8, 6)},
		{list(2, 2, 4, 1), 2, list(2, 1, 4, 1)},
		{list(2, 1, 4, 2), 4, list(2, 1, 4, 1)},
	} {
		if l, e := Remove(x.l, x.commit); !slices.Equal(l, x.want) || e != api.OK {
			t.Errorf("Remove(%v, %d) = %v, %d; want %v", x.l, x.commit, l, e, x.want)
		}
	}
}

func TestRemoveUntilTheCommitIsNotHeld(t *testing.T) { // P16.2
	l := list(1, 1, 5, mostCount, 9, 2)
	for count := mostCount - 1; count >= 0; count-- {
		want := list(1, 1, 5, count, 9, 2)
		if count == 0 {
			want = list(1, 1, 9, 2)
		}
		less, e := Remove(l, 5)
		if !slices.Equal(less, want) || e != api.OK {
			t.Fatalf("Remove(%v, 5) = %v, %d; want %v", l, less, e, want)
		}
		l = less
	}
	if less, e := Remove(l, 5); len(less) != 0 || e != api.ErrUnknown {
		t.Errorf("Remove(%v, 5) = %v, %d; want ErrUnknown", l, less, e)
	}
}

func TestRemoveOfUnknownCommits(t *testing.T) { // P16.2
	for _, l := range [][]api.Pin{nil, {}, list(2, 1), list(2, 5, 4, 6, 8, 7), list(1, 1, 4, mostCount)} {
		for _, commit := range append([]int{0, 3, 5, 7, 9, 1<<32 + 2, math.MaxInt}, negativeNumbers...) {
			if less, e := Remove(l, commit); len(less) != 0 || e != api.ErrUnknown {
				t.Errorf("Remove(%v, %d) = %v, %d; want ErrUnknown", l, commit, less, e)
			}
		}
	}
}

func TestTotal(t *testing.T) { // P16.3
	for _, x := range []struct {
		l    []api.Pin
		want int
	}{
		{nil, 0},
		{[]api.Pin{}, 0},
		{list(3, 1), 1},
		{list(3, 1, 5, 4, 7, mostCount), 5 + mostCount},
		{list(3, 0), 0},
		// Any list counts, valid or not.
		{list(5, 2, 5, 3, -1, 4, math.MinInt, 5), 14},
		{list(1, mostCount+1, 2, 1<<32), mostCount + 1 + 1<<32},
		{list(1, -5, 2, 3), 3},
		{list(1, 3, 2, -5), 3},
		{list(1, -1), 0},
		{list(1, math.MinInt, 2, math.MinInt), 0},
		{list(1, math.MinInt, 2, 7, 3, math.MinInt), 7},
		{list(1, mostTotal-1), mostTotal - 1},
		{list(1, mostTotal), mostTotal},
		{list(1, mostTotal+1), mostTotal},
		{list(1, mostTotal-1, 2, 1), mostTotal},
		{list(1, mostTotal-1, 2, 2), mostTotal},
		{list(1, 1, 2, mostTotal), mostTotal},
		{list(1, mostTotal/2, 2, mostTotal/2-1), mostTotal - 1},
		{list(1, math.MaxInt), mostTotal},
		{list(1, math.MaxInt, 2, math.MaxInt), mostTotal},
		{list(1, math.MaxInt, 2, 1), mostTotal},
		{list(1, 1, 2, math.MaxInt), mostTotal},
		{list(1, math.MaxInt, 2, math.MaxInt, 3, 2), mostTotal},
		// A negative count takes nothing back from a limited sum.
		{list(1, math.MaxInt, 2, -1), mostTotal},
		{list(1, mostTotal, 2, math.MinInt), mostTotal},
	} {
		if n := Total(x.l); n != x.want {
			t.Errorf("Total(%v) = %d; want %d", x.l, n, x.want)
		}
	}
}

// totalByHand is Total with numbers of any size.
func totalByHand(l []api.Pin) int {
	sum := new(big.Int)
	for _, p := range l {
		if p.Count > 0 {
			sum.Add(sum, big.NewInt(int64(p.Count)))
		}
	}
	if sum.Cmp(big.NewInt(mostTotal)) > 0 {
		return mostTotal
	}
	return int(sum.Int64())
}

func TestTotalOfEachPairOfCounts(t *testing.T) { // P16.3
	counts := []int{
		math.MinInt, math.MinInt + 1, -mostTotal, -1 << 32, -1, 0, 1, mostCount, 1 << 31, 1 << 32, mostTotal / 2,
		mostTotal - 1, mostTotal, mostTotal + 1, math.MaxInt - mostTotal, math.MaxInt - 1, math.MaxInt,
	}
	for _, a := range counts {
		for _, b := range counts {
			for _, l := range [][]api.Pin{list(1, a, 2, b), list(2, a, 1, b, 1, 3)} {
				if n, want := Total(l), totalByHand(l); n != want {
					t.Errorf("Total(%v) = %d; want %d", l, n, want)
				}
			}
		}
	}
}

func TestTotalOfManyPins(t *testing.T) { // P16.3
	var l []api.Pin
	for i := range 5000 {
		l = append(l, api.Pin{Commit: i, Count: 1 + i%mostCount})
		if i%500 == 0 {
			if n, want := Total(l), totalByHand(l); n != want {
				t.Errorf("Total of %d pins = %d; want %d", len(l), n, want)
			}
		}
	}
}

func TestCovers(t *testing.T) { // P16.3
	one := list(3, 1)
	three := list(2, 1, 5, 1, 9, 1)
	for _, x := range []struct {
		l        []api.Pin
		from, to int
		want     bool
	}{
		{one, 3, 4, true}, {one, 1, 0, true}, {one, 2, 9, true}, {one, 1, 3, false},
		{one, 3, 0, true}, {one, 4, 0, false}, {one, 0, 0, true}, {one, 0, 4, true}, {one, 0, 3, false},
		{one, 4, 9, false}, {one, 3, 3, false}, {one, 4, 3, false}, {one, 4, 2, false}, {one, 3, 1, false},
		{one, 3, -1, false}, {one, 0, -1, false}, {one, math.MinInt, math.MinInt, false},
		{one, math.MinInt, math.MaxInt, true}, {one, math.MinInt, 0, true}, {one, math.MinInt, 3, false},
		{one, math.MaxInt, 0, false}, {one, 3, math.MaxInt, true}, {one, 3, math.MinInt, false},
		{nil, 0, 0, false}, {nil, 0, 9, false}, {[]api.Pin{}, math.MinInt, 0, false},
		{list(0, 1), 0, 0, true}, {list(0, 1), 0, 1, true}, {list(0, 1), 1, 0, false}, {list(0, 1), -1, 0, true},
		{list(math.MaxInt, 1), math.MaxInt, 0, true}, {list(math.MaxInt, 1), 0, math.MaxInt, false},
		{three, 1, 2, false}, {three, 1, 3, true}, {three, 3, 5, false}, {three, 3, 6, true},
		{three, 6, 9, false}, {three, 6, 10, true}, {three, 9, 10, true}, {three, 10, 0, false}, {three, 6, 0, true},
		// One pin must lie in the span, not one on each side of it.
		{list(2, 1, 9, 1), 3, 9, false}, {list(9, 1, 2, 1), 3, 9, false},
		// Any list counts, valid or not; a pin is one whatever its count.
		{list(9, 1, 5, 1, 2, 1), 5, 6, true}, {list(9, 1, 5, 1, 2, 1), 2, 3, true}, {list(5, 1, 5, 1), 5, 6, true},
		{list(-3, 1), -4, -2, true}, {list(-3, 1), -3, -2, true}, {list(-3, 1), -4, -3, false},
		{list(-3, 1), -4, 0, true}, {list(-3, 1), -2, 0, false}, {list(math.MinInt, 1), math.MinInt, 0, true},
		{list(math.MinInt, 1), math.MinInt, math.MinInt, false}, {list(math.MinInt, 1), math.MinInt, math.MinInt + 1, true},
		{list(3, 0), 3, 4, true}, {list(3, -1), 3, 4, true}, {list(3, math.MaxInt), 3, 4, true}, {list(3, math.MinInt), 3, 0, true},
	} {
		if is := Covers(x.l, x.from, x.to); is != x.want {
			t.Errorf("Covers(%v, %d, %d) = %v; want %v", x.l, x.from, x.to, is, x.want)
		}
	}
}

func TestCoversComparedWithTheCommitsOfTheSpan(t *testing.T) { // P16.3
	const last = 8 // of the commits
	for set := range 1 << (last + 1) {
		var l []api.Pin
		for commit := last; commit >= 0; commit-- {
			if set>>commit&1 == 1 {
				l = append(l, api.Pin{Commit: commit, Count: 1})
			}
		}
		for from := range last + 2 {
			for to := range last + 2 {
				end := to
				if to == 0 {
					end = last + 1
				}
				want := false
				for commit := from; commit < end; commit++ {
					want = want || set>>commit&1 == 1
				}
				if is := Covers(l, from, to); is != want {
					t.Fatalf("Covers(%v, %d, %d) = %v; want %v", l, from, to, is, want)
				}
			}
		}
	}
}

// listByHand returns the list of pins of counts by commits.
func listByHand(counts map[int]int) []api.Pin {
	var l []api.Pin
	for _, commit := range slices.Sorted(maps.Keys(counts)) {
		if counts[commit] > 0 {
			l = append(l, api.Pin{Commit: commit, Count: counts[commit]})
		}
	}
	return l
}

func TestManyCallsComparedWithAMap(t *testing.T) { // P16.1 to P16.3
	for seed := uint32(1); seed <= 60; seed++ {
		x := seed
		draw := func(n int) int {
			x = x*1664525 + 1013904223
			return int(x>>16) % n
		}
		counts := map[int]int{draw(12): mostCount - 2}
		l, total := listByHand(counts), mostCount-2
		for range 500 {
			commit := draw(14) - 1
			want := api.OK
			var next []api.Pin
			var e api.Errno
			if draw(2) == 0 {
				next, e = Add(l, commit)
				if commit < 0 {
					want = api.ErrRange
				} else if counts[commit] == mostCount {
					want = api.ErrFull
				} else {
					counts[commit]++
					total++
				}
			} else {
				next, e = Remove(l, commit)
				if counts[commit] == 0 {
					want = api.ErrUnknown
				} else {
					counts[commit]--
					total--
				}
			}
			if e != want || e != api.OK && len(next) != 0 {
				t.Fatalf("a change of %v at %d gives %v, %d; want %d", l, commit, next, e, want)
			}
			if e == api.OK {
				l = next
			}
			if !slices.Equal(l, listByHand(counts)) || Validate(l) != api.OK || Total(l) != total {
				t.Fatalf("after a change at %d, the list is %v; want %v", commit, l, listByHand(counts))
			}
		}
	}
}

func TestExampleOfTheChapter(t *testing.T) { // P16.2, P16.3
	l, e := Add(nil, 3)
	if !slices.Equal(l, list(3, 1)) || e != api.OK {
		t.Errorf("Add(nil, 3) = %v, %d", l, e)
	}
	if !Covers(l, 3, 4) || !Covers(l, 1, 0) || !Covers(l, 2, 9) || Covers(l, 1, 3) {
		t.Error("Covers differs from the example")
	}
}

// checkSeparate calls a change of a list that has spare capacity, and checks
// that neither the list nor its spare capacity shows in the result or changes.
func checkSeparate(t *testing.T, name string, change func([]api.Pin, int) ([]api.Pin, api.Errno), x change) {
	t.Helper()
	l := append(slices.Grow([]api.Pin{}, len(x.l)+3), x.l...)
	all := l[:cap(l)]
	for i := len(l); i < len(all); i++ {
		all[i] = api.Pin{Commit: 77, Count: 7}
	}
	before := slices.Clone(all)
	first, e := change(l, x.commit)
	second, f := change(l, x.commit)
	if e != f || !slices.Equal(first, x.want) || !slices.Equal(second, x.want) {
		t.Fatalf("%s(%v, %d) = %v, %d and %v, %d; want %v", name, x.l, x.commit, first, e, second, f, x.want)
	}
	clear(append(first, list(1, 1, 2, 2)...))
	clear(first[:cap(first)])
	if !slices.Equal(all, before) || !slices.Equal(second, x.want) {
		t.Errorf("%s(%v, %d) changes its argument, or a result shares memory", name, x.l, x.commit)
	}
	clear(all)
	if !slices.Equal(second, x.want) {
		t.Errorf("the result of %s(%v, %d) changes with the argument", name, x.l, x.commit)
	}
}

func TestAddAndRemoveShareNoMemory(t *testing.T) { // R2
	for _, x := range []change{
		{nil, 3, list(3, 1)},
		{list(2, 5, 4, 1), 1, list(1, 1, 2, 5, 4, 1)},
		{list(2, 5, 4, 1), 3, list(2, 5, 3, 1, 4, 1)},
		{list(2, 5, 4, 1), 9, list(2, 5, 4, 1, 9, 1)},
		{list(2, 5, 4, 1), 2, list(2, 6, 4, 1)},
		{list(2, mostCount), 2, nil},
		{list(2, 5), -1, nil},
	} {
		checkSeparate(t, "Add", Add, x)
	}
	for _, x := range []change{
		{list(3, 1), 3, nil},
		{list(2, 1, 4, 1), 2, list(4, 1)},
		{list(2, 1, 4, 1), 4, list(2, 1)},
		{list(2, 5, 4, 1), 2, list(2, 4, 4, 1)},
		{list(2, 5, 4, 1), 3, nil},
	} {
		checkSeparate(t, "Remove", Remove, x)
	}
}

func TestReadingChangesNothing(t *testing.T) { // R2
	for _, l := range [][]api.Pin{list(2, 5, 4, 1, 9, 3), list(9, -1, 9, 0, -3, math.MaxInt)} {
		all := append(slices.Grow(l, 3), list(7, 7, 8, 8)...)
		before := slices.Clone(all)
		Validate(all[:len(l)])
		Total(all[:len(l)])
		Covers(all[:len(l)], 3, 0)
		Covers(all[:len(l)], 20, 30)
		if !slices.Equal(all, before) {
			t.Errorf("reading changes %v to %v", before, all)
		}
	}
}
