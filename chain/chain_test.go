package chain

import (
	"maps"
	"math"
	"slices"
	"testing"

	"sketchstore/api"
)

// list returns versions without bytes; its arguments are From and To in turn.
func list(numbers ...int) []api.Version {
	var l []api.Version
	for i := 0; i+1 < len(numbers); i += 2 {
		l = append(l, api.Version{From: numbers[i], To: numbers[i+1]})
	}
	return l
}

// with returns a list whose version i has a size and pages of its own.
func with(l []api.Version) []api.Version {
	all := slices.Clone(l)
	for i := range all {
		all[i].Size = 10*i + 7
		all[i].Pages = []int{100*i + 3, 100*i + 1, 100*i + 3}
	}
	return all
}

// pinned returns pins of commits.
func pinned(commits ...int) []api.Pin {
	var p []api.Pin
	for _, c := range commits {
		p = append(p, api.Pin{Commit: c, Count: 1})
	}
	return p
}

func same(a, b api.Version) bool {
	return a.From == b.From && a.To == b.To && a.Size == b.Size && slices.Equal(a.Pages, b.Pages)
}

func equal(a, b []api.Version) bool { return slices.EqualFunc(a, b, same) }

// deep returns copies of versions that share no memory with them.
func deep(l []api.Version) []api.Version {
	var all []api.Version
	for _, v := range l {
		v.Pages = append([]int{}, v.Pages...)
		all = append(all, v)
	}
	return all
}

var negativeNumbers = []int{-1, -2, -1 << 20, 1 - 1<<32, math.MinInt + 1, math.MinInt}

// invalid is a list with the error of Validate.
type invalid struct {
	l []api.Version
	e api.Errno
}

// invalidLists returns every kind of a fault at every place of a list.
func invalidLists() []invalid {
	var all []invalid
	for _, good := range [][]api.Version{
		with(list(2, 5, 5, 8, 12, 13, 1<<20, 1<<32, math.MaxInt-1, math.MaxInt)),
		with(list(1, 2, 2, 6, 9, 11, 13, 0)),
	} {
		put := func(i int, e api.Errno, change func(v *api.Version)) {
			l := slices.Clone(good)
			change(&l[i])
			all = append(all, invalid{l, e})
		}
		for i, v := range good {
			for _, n := range append([]int{0}, negativeNumbers...) {
				put(i, api.ErrRange, func(v *api.Version) { v.From = n })
			}
			for _, n := range negativeNumbers {
				put(i, api.ErrRange, func(v *api.Version) { v.To = n })
				put(i, api.ErrRange, func(v *api.Version) { v.Size = n })
			}
			put(i, api.ErrOrder, func(x *api.Version) { x.To = v.From })
			if v.From > 1 {
				put(i, api.ErrOrder, func(x *api.Version) { x.To = v.From - 1 })
				put(i, api.ErrOrder, func(x *api.Version) { x.To = 1 })
			}
			if i+1 < len(good) {
				put(i, api.ErrOrder, func(v *api.Version) { v.To = 0 })
				put(i, api.ErrOrder, func(v *api.Version) { v.To = good[i+1].From + 1 })
				put(i, api.ErrOrder, func(v *api.Version) { v.To = math.MaxInt })
			}
			if i > 0 {
				put(i, api.ErrOrder, func(v *api.Version) { v.From = good[i-1].To - 1 })
				put(i, api.ErrOrder, func(v *api.Version) { v.From = good[i-1].From })
				put(i, api.ErrOrder, func(v *api.Version) { v.From = 1 })
			}
		}
	}
	return append(all,
		// Of two errors of a version, ErrRange is first.
		invalid{[]api.Version{{From: 5, To: 5, Size: -1}}, api.ErrRange},
		invalid{[]api.Version{{From: 5, To: 4, Size: -1}}, api.ErrRange},
		invalid{[]api.Version{{From: 5}, {From: 6, Size: -1}}, api.ErrRange},
		invalid{[]api.Version{{From: 5, To: 7}, {From: 6, Size: -1}}, api.ErrRange},
		invalid{list(0, 0), api.ErrRange},
		invalid{list(5, -1), api.ErrRange},
		invalid{list(5, 0, 6, -1), api.ErrRange},
		invalid{list(5, 0, 0, 0), api.ErrRange},
		// Of two faulty versions, the first one counts.
		invalid{list(5, 5, 0, 6), api.ErrOrder},
		invalid{list(5, 4, 6, -1), api.ErrOrder},
		invalid{list(0, 4, 6, 6), api.ErrRange},
		invalid{list(5, 0, 6, 0, 7, -1), api.ErrOrder},
		invalid{list(5, 8, 7, 9, 0, 0), api.ErrOrder},
		invalid{list(5, 8, 8, -9, 8, 8), api.ErrRange},
		// A version further before is still a version before.
		invalid{list(5, 0, 6, 7, 8, 9), api.ErrOrder},
		invalid{list(5, 20, 6, 7, 8, 9), api.ErrOrder},
		invalid{list(3, 0, 3, 0), api.ErrOrder},
	)
}

// validLists returns lists without a fault.
func validLists() [][]api.Version {
	var long []api.Version
	for i := range 3000 {
		long = append(long, api.Version{From: 3*i + 1, To: 3*i + 3 + i%2, Size: i, Pages: []int{i}})
	}
	return [][]api.Version{
		nil, {}, long, list(1, 0), list(1, 2), list(2, 6), list(5, 0), list(math.MaxInt, 0),
		list(math.MaxInt-1, math.MaxInt), list(1, math.MaxInt, math.MaxInt, 0),
		list(2, 4, 4, 0), list(2, 4, 5, 0), list(2, 4, 4, 5, 5, 6), list(1, 2, 7, 9, 9, 0),
		{{From: 1, Size: math.MaxInt}},
		// Pages are not checked.
		{{From: 1, Pages: []int{0, -1, math.MinInt, 5, 5}}},
		{{From: 1, To: 2, Size: 0, Pages: []int{1}}, {From: 2, Size: 1 << 40}},
	}
}

func TestValidate(t *testing.T) { // P17.1
	for _, l := range validLists() {
		if e := Validate(l); e != api.OK {
			t.Errorf("Validate(%v) = %d", l, e)
		}
	}
}

func TestValidateOfInvalidLists(t *testing.T) { // P17.1
	for _, x := range invalidLists() {
		if e := Validate(x.l); e != x.e {
			t.Errorf("Validate(%v) = %d; want %d", x.l, e, x.e)
		}
	}
}

// errorByHand is Validate with a look at all versions before.
func errorByHand(l []api.Version) api.Errno {
	for i, v := range l {
		if v.From < 1 || v.To < 0 || v.Size < 0 {
			return api.ErrRange
		}
		if v.To > 0 && v.To <= v.From {
			return api.ErrOrder
		}
		for _, before := range l[:i] {
			if before.To == 0 || before.To > v.From {
				return api.ErrOrder
			}
		}
	}
	return api.OK
}

// shortLists calls f with all lists of up to three versions whose From and To
// are from -1 to 4.
func shortLists(f func(l []api.Version)) {
	var all []api.Version
	for from := -1; from <= 4; from++ {
		for to := -1; to <= 4; to++ {
			all = append(all, api.Version{From: from, To: to})
		}
	}
	f(nil)
	for _, a := range all {
		f([]api.Version{a})
		for _, b := range all {
			f([]api.Version{a, b})
			for _, c := range all {
				f([]api.Version{a, b, c})
			}
		}
	}
}

func TestValidateOfShortLists(t *testing.T) { // P17.1
	shortLists(func(l []api.Version) {
		if e, want := Validate(l), errorByHand(l); e != want {
			t.Errorf("Validate(%v) = %d; want %d", l, e, want)
		}
	})
}

func TestFind(t *testing.T) { // P17.2
	chain := list(2, 5, 5, 8, 10, 0)
	for _, x := range []struct {
		l         []api.Version
		commit, i int
		ok        bool
	}{
		{nil, 0, 0, false}, {nil, 1, 0, false}, {[]api.Version{}, math.MaxInt, 0, false},
		{chain, math.MinInt, 0, false}, {chain, -1, 0, false}, {chain, 0, 0, false}, {chain, 1, 0, false},
		{chain, 2, 0, true}, {chain, 4, 0, true}, {chain, 5, 1, true}, {chain, 7, 1, true},
		{chain, 8, 0, false}, {chain, 9, 0, false}, {chain, 10, 2, true}, {chain, math.MaxInt, 2, true},
		{list(2, 5), 4, 0, true}, {list(2, 5), 5, 0, false}, {list(2, 5), 6, 0, false}, {list(2, 3), 2, 0, true},
		{list(math.MaxInt, 0), math.MaxInt, 0, true}, {list(math.MaxInt, 0), math.MaxInt - 1, 0, false},
		{list(1, math.MaxInt), math.MaxInt, 0, false}, {list(1, math.MaxInt), math.MaxInt - 1, 0, true},
		// Any list counts, valid or not, and of several versions the first one.
		{list(2, 0, 2, 0), 3, 0, true}, {list(5, 0, 2, 0), 3, 1, true}, {list(5, 0, 2, 0), 5, 0, true},
		{list(4, 4, 4, 0), 4, 1, true}, {list(4, 3, 2, 4, 1, 0), 3, 1, true}, {list(4, 3), 3, 0, false}, {list(4, 3), 4, 0, false},
		{list(0, 0), 0, 0, true}, {list(-5, -2), -3, 0, true}, {list(-5, -2), -2, 0, false}, {list(-5, -2), -5, 0, true},
		{list(-5, 0), 7, 0, true}, {list(-5, 0), -6, 0, false}, {list(1, -1), 1, 0, false}, {list(1, -1), 5, 0, false},
		{list(math.MinInt, 0), math.MinInt, 0, true}, {list(math.MinInt, math.MinInt), math.MinInt, 0, false},
		{[]api.Version{{From: 1, Size: -1}}, 1, 0, true},
		{list(1, 2, 2, 1, 9, 0, 3, 0, 3, 5), 4, 3, true},
	} {
		if i, ok := Find(x.l, x.commit); i != x.i || ok != x.ok {
			t.Errorf("Find(%v, %d) = %d, %v; want %d, %v", x.l, x.commit, i, ok, x.i, x.ok)
		}
	}
}

func TestFindInShortLists(t *testing.T) { // P17.2
	shortLists(func(l []api.Version) {
		for commit := -2; commit <= 5; commit++ {
			want, found := 0, false
			for i := len(l) - 1; i >= 0; i-- {
				if l[i].From <= commit && (l[i].To == 0 || l[i].To > commit) {
					want, found = i, true
				}
			}
			if i, ok := Find(l, commit); i != want || ok != found {
				t.Errorf("Find(%v, %d) = %d, %v; want %d, %v", l, commit, i, ok, want, found)
			}
		}
	})
}

func TestInvalidListsForAppendAndClose(t *testing.T) { // P17.3
	for _, x := range invalidLists() {
		// Whether the other argument is faulty, too, counts after the list.
		for _, from := range []int{math.MinInt, -1, 0, 1, 7, 12, 1 << 33, math.MaxInt} {
			for _, v := range []api.Version{{From: from}, {From: from, To: 1}, {From: from, Size: -1}} {
				if l, e := Append(x.l, v); len(l) != 0 || e != x.e {
					t.Errorf("Append(%v, %v) = %v, %d; want %d", x.l, v, l, e, x.e)
				}
			}
			if l, e := Close(x.l, from); len(l) != 0 || e != x.e {
				t.Errorf("Close(%v, %d) = %v, %d; want %d", x.l, from, l, e, x.e)
			}
		}
	}
}

func TestAppend(t *testing.T) { // P17.3
	for _, x := range []struct {
		l    []api.Version
		from int
		want []api.Version
	}{
		{nil, 1, list(1, 0)},
		{[]api.Version{}, 5, list(5, 0)},
		{nil, math.MaxInt, list(math.MaxInt, 0)},
		{list(2, 0), 3, list(2, 3, 3, 0)},
		{list(2, 0), 5, list(2, 5, 5, 0)},
		{list(2, 0), math.MaxInt, list(2, math.MaxInt, math.MaxInt, 0)},
		{list(2, 4, 4, 0), 9, list(2, 4, 4, 9, 9, 0)},
		// A span that has ended stays as it is, with or without a gap.
		{list(2, 6), 6, list(2, 6, 6, 0)},
		{list(2, 6), 7, list(2, 6, 7, 0)},
		{list(2, 6), math.MaxInt, list(2, 6, math.MaxInt, 0)},
		{list(2, 4, 6, 8), 8, list(2, 4, 6, 8, 8, 0)},
		{list(2, 4, 6, 8), 20, list(2, 4, 6, 8, 20, 0)},
		{list(2, 4, 6, 0), 20, list(2, 4, 6, 20, 20, 0)},
		{list(1, math.MaxInt), math.MaxInt, list(1, math.MaxInt, math.MaxInt, 0)},
	} {
		// Sizes and pages are those of the list and of the new version.
		want := with(x.want)
		v := want[len(want)-1]
		if l, e := Append(with(x.l), v); !equal(l, want) || e != api.OK {
			t.Errorf("Append(%v, %v) = %v, %d; want %v", with(x.l), v, l, e, want)
		}
		if l, e := Append(x.l, api.Version{From: x.from}); !equal(l, x.want) || e != api.OK {
			t.Errorf("Append(%v, {%d}) = %v, %d; want %v", x.l, x.from, l, e, x.want)
		}
	}
}

func TestAppendOfAnySizeAndPages(t *testing.T) { // P17.3
	for _, v := range []api.Version{
		{From: 3}, {From: 3, Size: 1}, {From: 3, Size: math.MaxInt}, {From: 3, Pages: []int{}}, {From: 3, Pages: []int{4}},
		{From: 3, Size: 2, Pages: []int{0, -1, math.MinInt, math.MaxInt, 7, 7}},
	} {
		want := []api.Version{{From: 1, To: 3, Size: 5, Pages: []int{2}}, v}
		if l, e := Append([]api.Version{{From: 1, Size: 5, Pages: []int{2}}}, v); !equal(l, want) || e != api.OK {
			t.Errorf("Append of %v = %v, %d; want %v", v, l, e, want)
		}
	}
}

func TestAppendWithErrors(t *testing.T) { // P17.3
	check := func(l []api.Version, v api.Version, want api.Errno) {
		t.Helper()
		if longer, e := Append(l, v); len(longer) != 0 || e != want {
			t.Errorf("Append(%v, %v) = %v, %d; want %d", l, v, longer, e, want)
		}
	}
	for _, l := range validLists() {
		for _, n := range negativeNumbers {
			check(l, api.Version{From: n}, api.ErrRange)
			check(l, api.Version{From: math.MaxInt, Size: n}, api.ErrRange)
			check(l, api.Version{From: math.MaxInt, To: n}, api.ErrRange)
			// Of two errors, ErrRange is first.
			check(l, api.Version{From: 1, Size: n}, api.ErrRange)
			check(l, api.Version{From: 1, To: n}, api.ErrRange)
		}
		for _, n := range []int{1, 2, 1 << 32, math.MaxInt - 1, math.MaxInt} {
			check(l, api.Version{From: 1, To: n}, api.ErrRange)
			check(l, api.Version{From: math.MaxInt - 1, To: n}, api.ErrRange)
		}
		check(l, api.Version{}, api.ErrRange)
		check(l, api.Version{From: 0, Size: 1}, api.ErrRange)
		if len(l) > 0 {
			last := l[len(l)-1]
			check(l, api.Version{From: 1}, api.ErrOrder)
			check(l, api.Version{From: last.From}, api.ErrOrder)
			check(l, api.Version{From: max(last.From, last.To-1)}, api.ErrOrder)
		}
	}
	for _, from := range []int{1, 2, 3, 4, 5} {
		check(list(2, 6), api.Version{From: from}, api.ErrOrder)
	}
	for _, from := range []int{1, 4, 5, 6} {
		check(list(2, 4, 6, 0), api.Version{From: from}, api.ErrOrder)
	}
	check(list(math.MaxInt, 0), api.Version{From: math.MaxInt}, api.ErrOrder)
	check(list(1, math.MaxInt), api.Version{From: math.MaxInt - 1}, api.ErrOrder)
}

func TestClose(t *testing.T) { // P17.3
	for _, x := range []struct {
		l      []api.Version
		commit int
		want   []api.Version
	}{
		{list(1, 0), 2, list(1, 2)},
		{list(2, 0), 3, list(2, 3)},
		{list(2, 0), 9, list(2, 9)},
		{list(2, 0), math.MaxInt, list(2, math.MaxInt)},
		{list(math.MaxInt-1, 0), math.MaxInt, list(math.MaxInt-1, math.MaxInt)},
		{list(2, 5, 5, 0), 6, list(2, 5, 5, 6)},
		{list(2, 4, 6, 7, 7, 0), 20, list(2, 4, 6, 7, 7, 20)},
	} {
		if l, e := Close(with(x.l), x.commit); !equal(l, with(x.want)) || e != api.OK {
			t.Errorf("Close(%v, %d) = %v, %d; want %v", with(x.l), x.commit, l, e, with(x.want))
		}
	}
}

func TestCloseWithErrors(t *testing.T) { // P17.3
	for _, x := range []struct {
		l      []api.Version
		commit int
		e      api.Errno
	}{
		{nil, 9, api.ErrState}, {[]api.Version{}, 9, api.ErrState}, {nil, 0, api.ErrState},
		{list(2, 6), 9, api.ErrState}, {list(2, 6), 6, api.ErrState}, {list(2, 4, 4, 5), 9, api.ErrState},
		// Of two errors, ErrState is first.
		{nil, -1, api.ErrState}, {list(2, 6), 2, api.ErrState}, {list(2, 6), -1, api.ErrState}, {list(2, 6), math.MinInt, api.ErrState},
		{list(2, 0), 2, api.ErrOrder}, {list(2, 0), 1, api.ErrOrder}, {list(2, 0), 0, api.ErrOrder}, {list(2, 0), -1, api.ErrOrder},
		{list(2, 0), math.MinInt, api.ErrOrder}, {list(2, 5, 6, 0), 5, api.ErrOrder}, {list(2, 5, 6, 0), 6, api.ErrOrder},
		{list(math.MaxInt, 0), math.MaxInt, api.ErrOrder},
	} {
		if l, e := Close(with(x.l), x.commit); len(l) != 0 || e != x.e {
			t.Errorf("Close(%v, %d) = %v, %d; want %d", x.l, x.commit, l, e, x.e)
		}
	}
}

// appendErrorByHand is the error of Append.
func appendErrorByHand(l []api.Version, v api.Version) api.Errno {
	if e := errorByHand(l); e != api.OK {
		return e
	}
	if v.From < 1 || v.Size < 0 || v.To != 0 {
		return api.ErrRange
	}
	// A chain ends with what was appended, so that this is a valid one exactly
	// if it is in order.
	whole := append(slices.Clone(l), v)
	if n := len(l); n > 0 && l[n-1].To == 0 {
		whole[n-1].To = v.From
	}
	return errorByHand(whole)
}

func TestAppendAndCloseOfShortLists(t *testing.T) { // P17.3
	shortLists(func(l []api.Version) {
		for n := -1; n <= 6; n++ {
			v := api.Version{From: n}
			longer, e := Append(l, v)
			if want := appendErrorByHand(l, v); e != want || (len(longer) != 0) != (e == api.OK) {
				t.Errorf("Append(%v, %v) = %v, %d; want %d", l, v, longer, e, want)
			}
			if e == api.OK && (len(longer) != len(l)+1 || Validate(longer) != api.OK || !same(longer[len(l)], v)) {
				t.Errorf("Append(%v, %v) = %v", l, v, longer)
			}
			closed, e := Close(l, n)
			want := errorByHand(l)
			if want == api.OK {
				if len(l) == 0 || l[len(l)-1].To > 0 {
					want = api.ErrState
				} else if n <= l[len(l)-1].From {
					want = api.ErrOrder
				}
			}
			if e != want || (len(closed) != 0) != (e == api.OK) {
				t.Errorf("Close(%v, %d) = %v, %d; want %d", l, n, closed, e, want)
			}
			if e == api.OK && (len(closed) != len(l) || Validate(closed) != api.OK || closed[len(l)-1].To != n) {
				t.Errorf("Close(%v, %d) = %v", l, n, closed)
			}
		}
	})
}

func TestDead(t *testing.T) { // P17.4
	chain := list(2, 5, 5, 8, 10, 12, 12, 0)
	for _, x := range []struct {
		l    []api.Version
		p    []api.Pin
		want []int
	}{
		{nil, nil, nil}, {[]api.Version{}, pinned(1), nil}, {list(1, 0), nil, nil}, {list(1, 0), pinned(1), nil},
		{list(1, 2), nil, []int{0}}, {list(1, 2), pinned(1), nil}, {list(1, 2), pinned(0), []int{0}}, {list(1, 2), pinned(2), []int{0}},
		{chain, nil, []int{0, 1, 2}}, {chain, []api.Pin{}, []int{0, 1, 2}},
		{chain, pinned(1), []int{0, 1, 2}}, {chain, pinned(2), []int{1, 2}}, {chain, pinned(4), []int{1, 2}},
		{chain, pinned(5), []int{0, 2}}, {chain, pinned(7), []int{0, 2}}, {chain, pinned(8, 9), []int{0, 1, 2}},
		{chain, pinned(10), []int{0, 1}}, {chain, pinned(11), []int{0, 1}}, {chain, pinned(12), []int{0, 1, 2}},
		{chain, pinned(0, 3, 6), []int{2}}, {chain, pinned(3, 11), []int{1}}, {chain, pinned(6, 11), []int{0}},
		{chain, pinned(2, 5, 10), nil}, {chain, pinned(1, 8, 12, math.MaxInt), []int{0, 1, 2}},
		{list(2, 5, 5, 0), pinned(7), []int{0}},
		// Any lists count, valid or not; only a To of 0 means without end.
		{list(5, 5, 6, 4), pinned(4, 5, 6), []int{0, 1}}, {list(7, 9, 0, 0, 2, 5, 2, 5), nil, []int{0, 2, 3}},
		{list(7, 9, 0, 0, 2, 5, 2, 5), pinned(8, 1), []int{2, 3}}, {list(7, 9, 2, 5), pinned(8, 3), nil},
		{list(1, -1), pinned(1), []int{0}}, {list(-5, -2), pinned(-3), nil}, {list(-5, -2), pinned(-2, -6), []int{0}},
		{list(3, -1), nil, []int{0}}, {list(0, math.MinInt), pinned(0, math.MinInt), []int{0}},
		{list(math.MinInt, math.MaxInt), pinned(0), nil}, {list(math.MinInt, math.MaxInt), pinned(math.MaxInt), []int{0}},
		{list(2, 5), []api.Pin{{Commit: 3}}, nil}, {list(2, 5), []api.Pin{{Commit: 3, Count: -1}}, nil},
		{[]api.Version{{From: 2, To: 5, Size: -1}}, nil, []int{0}},
	} {
		if dead := Dead(x.l, x.p); !slices.Equal(dead, x.want) {
			t.Errorf("Dead(%v, %v) = %v; want %v", x.l, x.p, dead, x.want)
		}
	}
}

func TestDeadInShortLists(t *testing.T) { // P17.4
	shortLists(func(l []api.Version) {
		for set := range 1 << 4 {
			var p []api.Pin
			for commit := range 4 {
				if set>>commit&1 == 1 {
					p = append(p, api.Pin{Commit: 4 - commit, Count: 1})
				}
			}
			var want []int
			for i, v := range l {
				live := v.To == 0
				for _, pin := range p {
					live = live || v.From <= pin.Commit && pin.Commit < v.To
				}
				if !live {
					want = append(want, i)
				}
			}
			if dead := Dead(l, p); !slices.Equal(dead, want) {
				t.Fatalf("Dead(%v, %v) = %v; want %v", l, p, dead, want)
			}
		}
	})
}

func TestRemove(t *testing.T) { // P17.4
	for _, x := range []struct {
		l    []api.Version
		from int
		at   int // of the removed version
	}{
		{list(2, 0), 2, 0}, {list(2, 5), 2, 0}, {list(math.MaxInt, 0), math.MaxInt, 0},
		{list(2, 5, 5, 8, 9, 0), 2, 0}, {list(2, 5, 5, 8, 9, 0), 5, 1}, {list(2, 5, 5, 8, 9, 0), 9, 2},
		// Any list counts, valid or not, and of several versions the first one.
		{list(3, 4, 2, 0, 2, 5, 2, 1), 2, 1}, {list(2, 0, 2, 0), 2, 0}, {list(5, 2, 2, 5), 2, 1},
		{list(0, 0), 0, 0}, {list(-3, -7, -4, 0), -4, 1}, {list(7, 0, math.MinInt, 0), math.MinInt, 1},
	} {
		l := with(x.l)
		want := slices.Concat(l[:x.at], l[x.at+1:])
		if rest, v, e := Remove(l, x.from); !equal(rest, want) || !same(v, l[x.at]) || e != api.OK {
			t.Errorf("Remove(%v, %d) = %v, %v, %d; want %v", l, x.from, rest, v, e, want)
		}
	}
}

func TestRemoveOfUnknownVersions(t *testing.T) { // P17.4
	for _, l := range [][]api.Version{nil, {}, list(2, 0), list(2, 5, 5, 8, 9, 0), list(9, 4, 2, 1)} {
		for _, from := range []int{0, 1, 3, 4, 6, 8, 10, 1<<32 + 2, math.MaxInt, -2, math.MinInt} {
			if rest, v, e := Remove(with(l), from); len(rest) != 0 || !same(v, api.Version{}) || e != api.ErrUnknown {
				t.Errorf("Remove(%v, %d) = %v, %v, %d; want ErrUnknown", l, from, rest, v, e)
			}
		}
	}
}

// record is a chain as the sizes of the versions that hold at each commit.
type record map[int]int

// checkRecord compares a chain with its record up to a commit.
func checkRecord(t *testing.T, l []api.Version, r record, last int) {
	t.Helper()
	if e := Validate(l); e != api.OK {
		t.Fatalf("Validate(%v) = %d", l, e)
	}
	for commit := range last + 2 {
		i, ok := Find(l, commit)
		// The state after the last commit goes on.
		size, holds := r[min(commit, last)]
		if ok != holds || ok && l[i].Size != size {
			t.Fatalf("Find(%v, %d) = %d, %v; want a version of size %d, %v", l, commit, i, ok, size, holds)
		}
	}
}

func TestManyCallsComparedWithARecordOfEachCommit(t *testing.T) { // P17.1 to P17.4
	for seed := uint32(1); seed <= 200; seed++ {
		x := seed
		draw := func(n int) int {
			x = x*1664525 + 1013904223
			return int(x>>16) % n
		}
		var l []api.Version
		r := record{}
		size, holds := 0, false
		last := 0
		for range 60 {
			last++
			next, e := l, api.OK
			switch draw(4) {
			case 0, 1:
				size, holds = last, true
				next, e = Append(l, api.Version{From: last, Size: size, Pages: []int{last}})
			case 2:
				if holds {
					holds = false
					next, e = Close(l, last)
				}
			}
			if e != api.OK {
				t.Fatalf("a change of %v at %d gives %d", l, last, e)
			}
			l = next
			if holds {
				r[last] = size
			}
			checkRecord(t, l, r, last)
			if draw(5) == 0 {
				l = collect(t, l, r, pinned(draw(last+1), draw(last+1)))
				checkRecord(t, l, r, last)
			}
		}
	}
}

// collect removes all dead versions of a chain and of its record.
func collect(t *testing.T, l []api.Version, r record, p []api.Pin) []api.Version {
	t.Helper()
	keep := map[int]bool{}
	for _, pin := range p {
		if size, ok := r[pin.Commit]; ok {
			keep[size] = true
		}
	}
	if n := len(l); n > 0 && l[n-1].To == 0 {
		keep[l[n-1].Size] = true
	}
	maps.DeleteFunc(r, func(commit, size int) bool { return !keep[size] })
	rest := l
	for _, i := range Dead(l, p) {
		less, v, e := Remove(rest, l[i].From)
		if e != api.OK || !same(v, l[i]) || len(less) != len(rest)-1 {
			t.Fatalf("Remove(%v, %d) = %v, %v, %d", rest, l[i].From, less, v, e)
		}
		rest = less
	}
	if len(rest) != len(keep) || len(Dead(rest, p)) != 0 {
		t.Fatalf("of %v with %v, %v stays", l, p, rest)
	}
	return rest
}

func TestExampleOfTheChapter(t *testing.T) { // P17.3
	if l, e := Append(list(2, 0), api.Version{From: 5}); !equal(l, list(2, 5, 5, 0)) || e != api.OK {
		t.Errorf("Append gives %v, %d", l, e)
	}
}

// roomy returns a list like l, which has spare capacity, as its pages do.
func roomy(l []api.Version) []api.Version {
	all := append(make([]api.Version, 0, len(l)+3), deep(l)...)
	for i, v := range all {
		all[i].Pages = append(append(make([]int, 0, len(v.Pages)+3), v.Pages...), 88, 99)[:len(v.Pages)]
	}
	return append(all, api.Version{From: 77, Pages: []int{7}}, api.Version{From: 78})[:len(l)]
}

// whole returns a copy of a list with its spare capacity and that of its pages.
func whole(l []api.Version) []api.Version {
	all := deep(l[:cap(l)])
	for i, v := range l[:cap(l)] {
		all[i].Pages = slices.Clone(v.Pages[:cap(v.Pages)])
	}
	return all
}

// spoil overwrites a list, its pages, and the spare capacity of both.
func spoil(l []api.Version) {
	l = l[:cap(l)]
	for i, v := range l {
		for j := range v.Pages[:cap(v.Pages)] {
			v.Pages[:cap(v.Pages)][j] = -9
		}
		l[i] = api.Version{From: -9, Pages: []int{-9}}
	}
}

// checkSeparate makes a change of a list twice, and checks that neither the
// arguments nor their spare capacity shows in a result or changes, and that no
// two slices of the results share memory.
func checkSeparate(t *testing.T, name string, l, want []api.Version, change func([]api.Version) []api.Version) {
	t.Helper()
	l = roomy(l)
	before := whole(l)
	first, second := change(l), change(l)
	if !equal(first, want) || !equal(second, want) || !equal(whole(l), before) {
		t.Fatalf("%s of %v gives %v and %v; want %v, and the argument as it was", name, l, first, second, want)
	}
	spoil(l)
	if !equal(first, want) {
		t.Errorf("the result of %s changes with its argument", name)
	}
	for i := range first {
		old := deep(first)
		pages := first[i].Pages[:cap(first[i].Pages)]
		for j := range pages {
			pages[j] = -1
		}
		old[i].Pages = first[i].Pages
		if !equal(first, old) || !equal(second, want) {
			t.Errorf("the pages of version %d of the result of %s share memory", i, name)
		}
	}
	spoil(first)
	if !equal(second, want) {
		t.Errorf("two results of %s share memory", name)
	}
}

func TestResultsShareNoMemory(t *testing.T) { // R2
	for _, l := range [][]api.Version{nil, with(list(2, 0)), with(list(2, 5)), with(list(2, 5, 7, 9, 9, 0))} {
		v := api.Version{From: 20, Size: 4, Pages: append(make([]int, 0, 9), 6, 5)}
		want := append(deep(l), deep([]api.Version{v})...)
		if n := len(l); n > 0 && l[n-1].To == 0 {
			want[n-1].To = 20
		}
		checkSeparate(t, "Append", l, want, func(l []api.Version) []api.Version {
			longer, _ := Append(l, v)
			return longer
		})
		if !slices.Equal(v.Pages[:cap(v.Pages)], []int{6, 5, 0, 0, 0, 0, 0, 0, 0}) {
			t.Errorf("Append shares or changes the pages of its argument: %v", v.Pages[:cap(v.Pages)])
		}
		if n := len(l); n > 0 && l[n-1].To == 0 {
			want = deep(l)
			want[n-1].To = 20
			checkSeparate(t, "Close", l, want, func(l []api.Version) []api.Version {
				closed, _ := Close(l, 20)
				return closed
			})
		}
		for i := range l {
			want = slices.Concat(deep(l[:i]), deep(l[i+1:]))
			checkSeparate(t, "Remove", l, want, func(l []api.Version) []api.Version {
				rest, _, _ := Remove(l, l[i].From)
				return rest
			})
			// The removed version is checked behind the rest.
			want = append(want, deep(l[i:i+1])...)
			checkSeparate(t, "Remove", l, want, func(l []api.Version) []api.Version {
				rest, v, _ := Remove(l, l[i].From)
				return append(slices.Clip(rest), v)
			})
		}
	}
}

func TestRemovedVersionIsNotInTheSpareCapacity(t *testing.T) { // R2
	for from := range 3 {
		rest, v, e := Remove(with(list(1, 2, 2, 3, 3, 0)), from+1)
		if e != api.OK {
			t.Fatal(e)
		}
		spoil(rest)
		if !same(v, with(list(1, 2, 2, 3, 3, 0))[from]) {
			t.Errorf("the removed version shares memory with the rest: %v", v)
		}
	}
}

func TestAppendOfAVersionWithThePagesOfTheList(t *testing.T) { // R2
	pages := []int{4, 2}
	l, e := Append([]api.Version{{From: 1, Pages: pages}}, api.Version{From: 3, Pages: pages})
	if e != api.OK || len(l) != 2 {
		t.Fatal(l, e)
	}
	l[0].Pages[0] = 9
	l[1].Pages[1] = 8
	if !slices.Equal(pages, []int{4, 2}) || !slices.Equal(l[0].Pages, []int{9, 2}) || !slices.Equal(l[1].Pages, []int{4, 8}) {
		t.Errorf("the versions %v share memory with %v or with each other", l, pages)
	}
}

func TestReadingAndErrorsChangeNothing(t *testing.T) { // R2, R5
	for _, x := range [][]api.Version{with(list(2, 5, 7, 9, 9, 0)), with(list(2, 5)), with(list(9, 0, -3, 4, 9, 9))} {
		l := roomy(x)
		before := whole(l)
		p := append(make([]api.Pin, 0, 4), pinned(8, 3)...)
		Validate(l)
		Find(l, 7)
		Find(l, -1)
		first, second := Dead(l, p), Dead(l, p)
		want := slices.Clone(first)
		for i := range second[:cap(second)] {
			second[:cap(second)][i] = -1
		}
		Append(l, api.Version{From: 1})
		Append(l, api.Version{From: -1})
		Close(l, 1)
		Remove(l, 99)
		if !equal(whole(l), before) || !slices.Equal(p[:4], append(pinned(8, 3), api.Pin{}, api.Pin{})) {
			t.Errorf("a call that only reads changes %v to %v, or the pins to %v", before, whole(l), p[:4])
		}
		if !slices.Equal(first, want) {
			t.Errorf("two results of Dead share memory")
		}
	}
}
