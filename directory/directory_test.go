package directory

import (
	"maps"
	"math"
	"slices"
	"strconv"
	"strings"
	"testing"

	"sketchstore/api"
)

// bound returns a binding.
func bound(name string, object, from, to int) api.Binding {
	return api.Binding{Name: name, Object: object, From: from, To: to}
}

// list returns a list of its arguments.
func list(l ...api.Binding) []api.Binding { return l }

// pinned returns pins of commits.
func pinned(commits ...int) []api.Pin {
	var p []api.Pin
	for _, c := range commits {
		p = append(p, api.Pin{Commit: c, Count: 1})
	}
	return p
}

var negativeNumbers = []int{-1, -2, -1 << 20, 1 - 1<<32, math.MinInt + 1, math.MinInt}

// longName has as many bytes as a name may have.
const longName = "a123456789.b-c.d"

var wrongNames = []string{
	"", "A", "aB", "1", "1a", "-", "-a", ".a", "a_b", "a b", " a", "a ", "a\n", "a\x00", "a/", "a:", "ä", "aä", "a\xff", "a`", "a{",
	longName + "e", longName + longName,
}

// invalid is a list with the error of Validate.
type invalid struct {
	l []api.Binding
	e api.Errno
}

// goodLists returns lists into which faults are put, in which each object has
// one binding only.
func goodLists() [][]api.Binding {
	return [][]api.Binding{
		list(bound("a", 3, 2, 5), bound("a", 4, 5, 8), bound("a", 2, 9, 0), bound("b", 9, 2, 3), bound("c", 1, 1, 0)),
		list(bound("a", 7, 5, 0), bound("a-", 8, 3, 4), bound("a.", 9, 3, math.MaxInt), bound("a0", math.MaxInt, math.MaxInt, 0),
			bound("aa", 1, 3, 7), bound("aa", 2, 8, 0)),
	}
}

// invalidLists returns every kind of a fault at every place of a list.
func invalidLists() []invalid {
	var all []invalid
	for _, good := range goodLists() {
		put := func(i int, e api.Errno, change func(b *api.Binding)) {
			l := slices.Clone(good)
			change(&l[i])
			all = append(all, invalid{l, e})
		}
		for i, x := range good {
			for _, name := range wrongNames {
				put(i, api.ErrName, func(b *api.Binding) { b.Name = name })
				put(i, api.ErrName, func(b *api.Binding) { *b = bound(name, 0, x.From, x.To) })
				put(i, api.ErrName, func(b *api.Binding) { *b = bound(name, x.Object, 7, 7) })
			}
			for _, n := range negativeNumbers {
				put(i, api.ErrRange, func(b *api.Binding) { b.Object = n })
				put(i, api.ErrRange, func(b *api.Binding) { b.From = n })
				put(i, api.ErrRange, func(b *api.Binding) { b.To = n })
			}
			put(i, api.ErrRange, func(b *api.Binding) { b.Object = 0 })
			put(i, api.ErrRange, func(b *api.Binding) { b.From = 0 })
			put(i, api.ErrOrder, func(b *api.Binding) { b.To = x.From })
			if x.From > 1 {
				put(i, api.ErrOrder, func(b *api.Binding) { b.To = x.From - 1 })
				put(i, api.ErrOrder, func(b *api.Binding) { b.To = 1 })
			}
			if i > 0 && good[i-1].Name != x.Name {
				put(i, api.ErrOrder, func(b *api.Binding) { b.Name = "a"; b.From = 1 })
			}
			for _, y := range good[:i] {
				if x.To == 0 && (y.To == 0 || y.To > x.From) {
					put(i, api.ErrDuplicate, func(b *api.Binding) { b.From = max(b.From, y.From); b.Object = y.Object })
				}
			}
		}
	}
	return append(all, chosenInvalidLists()...)
}

// chosenInvalidLists returns lists whose faults are at the border of an error, or
// more than one.
func chosenInvalidLists() []invalid {
	order := func(l ...api.Binding) invalid { return invalid{l, api.ErrOrder} }
	duplicate := func(l ...api.Binding) invalid { return invalid{l, api.ErrDuplicate} }
	all := []invalid{
		order(bound("a", 1, 2, 2)), order(bound("a", 1, 2, 1)), order(bound("a", 1, math.MaxInt, math.MaxInt)),
		// Names are in bytewise order, and From counts for the same name only.
		order(bound("b", 1, 1, 0), bound("a", 2, 2, 0)), order(bound("aa", 1, 1, 0), bound("a", 2, 2, 0)),
		order(bound("b", 1, 1, 0), bound("aa", 2, 2, 0)), order(bound("a.", 1, 1, 0), bound("a-", 2, 2, 0)),
		order(bound("a0", 1, 1, 0), bound("a.", 2, 2, 0)), order(bound("aa", 1, 1, 0), bound("a9", 2, 2, 0)),
		order(bound("a", 1, 3, 4), bound("a", 2, 3, 4)), order(bound("a", 1, 3, 4), bound("a", 2, 2, 3)),
		order(bound("a", 1, 3, 4), bound("a", 2, 1, 2)), order(bound("a", 1, 3, 4), bound("a", 1, 3, 4)),
		order(bound("a", 1, 3, 4), bound("a", 2, 1, 0)), order(bound("a", 1, 3, 0), bound("a", 2, 3, 0)),
		order(bound("a", 1, 1, 0), bound("a", 2, 2, 0)), order(bound("a", 1, 1, 0), bound("a", 2, math.MaxInt, 0)),
		order(bound("a", 1, 1, 0), bound("a", 2, 2, 3)), order(bound("a", 1, 1, 3), bound("a", 2, 2, 4)),
		order(bound("a", 1, 1, 3), bound("a", 2, 2, 0)), order(bound("a", 1, 1, 9), bound("a", 2, 2, 3)),
		order(bound("a", 1, 1, math.MaxInt), bound("a", 2, math.MaxInt-1, 0)),
		order(bound("a", 1, 1, 2), bound("a", 2, 2, 4), bound("a", 3, 3, 5)),
		order(bound("b", 1, 1, 2), bound("c", 2, 2, 4), bound("b", 3, 5, 0)),
		order(bound("ab", 1, 1, 0), bound("ab", 2, 2, 0)), order(bound("ab", 1, 1, 3), bound("ab", 2, 2, 0)),
		order(bound(longName, 1, 1, 3), bound(longName, 2, 2, 0)), order(bound(longName, 1, 3, 4), bound(longName, 2, 2, 3)),

		duplicate(bound("a", 1, 1, 3), bound("b", 1, 2, 0)), duplicate(bound("a", 1, 2, 0), bound("b", 1, 1, 3)),
		duplicate(bound("a", 1, 1, 0), bound("b", 1, 1, 0)), duplicate(bound("a", 1, 1, 2), bound("b", 1, 1, 2)),
		duplicate(bound("a", 1, 1, 0), bound("b", 1, 5, 6)), duplicate(bound("a", 1, 5, 6), bound("b", 1, 1, 0)),
		duplicate(bound("a", 1, 1, 9), bound("b", 1, 4, 5)), duplicate(bound("a", 1, 4, 5), bound("b", 1, 1, 9)),
		duplicate(bound("a", 1, 1, 3), bound("b", 1, 2, 3)), duplicate(bound("a", 1, 1, 3), bound("b", 1, 1, 2)),
		duplicate(bound("a", 1, 1, 0), bound("b", 1, math.MaxInt, 0)),
		duplicate(bound("a", 1, math.MaxInt, 0), bound("b", 1, math.MaxInt, 0)),
		duplicate(bound("a", 1, math.MaxInt-1, math.MaxInt), bound("b", 1, 1, math.MaxInt)),
		// The two bindings need not stand beside each other.
		duplicate(bound("a", 5, 1, 3), bound("a", 2, 3, 0), bound("b", 3, 1, 0), bound("c", 5, 2, 0)),
		duplicate(bound("a", 5, 1, 3), bound("a", 6, 3, 4), bound("a", 7, 4, 9), bound("b", 5, 3, 4), bound("c", 7, 8, 0)),
		duplicate(bound("a", 2, 1, 9), bound("b", 2, 9, 12), bound("c", 1, 3, 0), bound("d", 2, 11, 12)),
		duplicate(bound("a", 2, 1, 9), bound("b", 2, 12, 0), bound("c", 2, 9, 12), bound("d", 2, 4, 5)),

		// Of the errors of a binding, ErrName is before ErrRange, and that before
		// ErrOrder.
		{list(bound("A", 0, 1, 0)), api.ErrName}, {list(bound("A", 1, 0, 0)), api.ErrName},
		{list(bound("A", 1, 1, -1)), api.ErrName}, {list(bound("A", 1, 3, 3)), api.ErrName},
		{list(bound("a", 1, 1, 0), bound("A", 2, 1, 0)), api.ErrName}, {list(bound("b", 1, 1, 0), bound("", 2, 1, 0)), api.ErrName},
		{list(bound("a", 0, 3, 3)), api.ErrRange}, {list(bound("a", 1, 0, 0)), api.ErrRange}, {list(bound("a", 1, 3, -1)), api.ErrRange},
		{list(bound("b", 1, 1, 0), bound("a", 0, 1, 0)), api.ErrRange}, {list(bound("b", 1, 1, 0), bound("b", 1, 0, 0)), api.ErrRange},
		{list(bound("b", 1, 1, 0), bound("b", 2, 2, -1)), api.ErrRange},
		// Of two faulty bindings, the first one counts.
		order(bound("a", 1, 3, 3), bound("A", 0, 0, 0)), order(bound("b", 1, 1, 0), bound("a", 1, 1, 0), bound("", 0, 0, 0)),
		order(bound("a", 1, 1, 0), bound("a", 2, 2, 0), bound("c", 0, 1, 0)),
		{list(bound("b", 0, 1, 0), bound("A", 1, 1, 0)), api.ErrRange}, {list(bound("b", 0, 1, 0), bound("a", 1, 1, 0)), api.ErrRange},
		{list(bound("B", 1, 1, 0), bound("a", 0, 1, 0)), api.ErrName}, {list(bound("b", 1, 1, 0), bound("a", -1, 1, 0), bound("A", 1, 1, 0)), api.ErrRange},
		// ErrDuplicate is the last error, wherever the others are.
		{list(bound("a", 1, 1, 0), bound("b", 1, 1, 0), bound("C", 2, 1, 0)), api.ErrName},
		{list(bound("a", 1, 1, 0), bound("b", 1, 1, 0), bound("c", 0, 1, 0)), api.ErrRange},
		{list(bound("a", 1, 1, 0), bound("b", 1, 1, 0), bound("c", 2, 2, 1)), api.ErrOrder},
		order(bound("a", 1, 1, 0), bound("b", 1, 1, 0), bound("b", 2, 2, 0)),
		order(bound("a", 1, 1, 0), bound("b", 1, 1, 0), bound("a", 2, 2, 0)),
	}
	long := slices.Clone(longList())
	long[len(long)-1].Object = long[0].Object
	return append(all, invalid{long, api.ErrDuplicate})
}

// longList returns a valid list of many bindings: each object passes through
// three names, and each name denotes three objects, the last one without end.
func longList() []api.Binding {
	const objects = 900
	name := func(i int) string { return "n" + strconv.Itoa(1000+i%objects) }
	var l []api.Binding
	for i := range objects {
		l = append(l, bound(name(i), i+1, 10+i, 1000), bound(name(i+7), i+1, 1000+i, 2000), bound(name(i+14), i+1, 2000+i, 0))
	}
	slices.SortFunc(l, func(a, b api.Binding) int {
		if a.Name == b.Name {
			return a.From - b.From
		}
		return strings.Compare(a.Name, b.Name)
	})
	return l
}

// validLists returns lists without a fault.
func validLists() [][]api.Binding {
	return append(goodLists(),
		nil, list(), longList(),
		list(bound("a", 1, 1, 0)), list(bound(longName, 1, 1, 2)), list(bound("z", math.MaxInt, math.MaxInt, 0)),
		list(bound("a", 1, math.MaxInt-1, math.MaxInt)), list(bound("a", 1, 1, math.MaxInt), bound("a", 2, math.MaxInt, 0)),
		list(bound("a", 1, 1, math.MaxInt), bound("a", 1, math.MaxInt, 0)),
		// Names follow each other bytewise; the From of another name is no matter.
		list(bound("a", 1, 9, 0), bound("a-", 2, 8, 0), bound("a.", 3, 7, 0), bound("a0", 4, 6, 0), bound("aa", 5, 5, 0), bound("b", 6, 4, 0)),
		list(bound("a", 1, 1, 0), bound("b", 2, 1, 0), bound("c", 3, 1, 2)),
		// Spans of a name and of an object may touch, and have gaps.
		list(bound("a", 1, 1, 2), bound("a", 2, 2, 4), bound("a", 3, 4, 0)), list(bound("a", 1, 1, 2), bound("a", 2, 5, 0)),
		list(bound("a", 1, 1, 2), bound("a", 1, 2, 4), bound("a", 1, 6, 0)),
		list(bound("a", 1, 1, 2), bound("b", 1, 2, 0)), list(bound("a", 1, 2, 0), bound("b", 1, 1, 2)),
		list(bound("a", 1, 3, 4), bound("b", 1, 7, 0), bound("c", 1, 1, 3), bound("d", 1, 4, 7)),
		list(bound("a", 1, 1, 3), bound("a", 2, 3, 0), bound("b", 1, 3, 5), bound("b", 3, 5, 0), bound("c", 1, 5, 0)),
	)
}

func TestValidate(t *testing.T) { // P18.1
	for _, l := range validLists() {
		if e := Validate(l); e != api.OK {
			t.Errorf("Validate(%v) = %d", l, e)
		}
	}
}

func TestValidateOfInvalidLists(t *testing.T) { // P18.1
	for _, x := range invalidLists() {
		if e := Validate(x.l); e != x.e {
			t.Errorf("Validate(%v) = %d; want %d", x.l, e, x.e)
		}
	}
}

// lastOfShortLists is greater than all numbers of short lists.
const lastOfShortLists = 6

// commitsOf returns the commits, as bits, at which a binding of a short list
// holds; the last bit stands for all later commits.
func commitsOf(b api.Binding) int {
	bits := 0
	for commit := -1; commit <= lastOfShortLists; commit++ {
		if b.From <= commit && (b.To == 0 || commit < b.To) {
			bits |= 1 << (commit + 1)
		}
	}
	return bits
}

// errorByHand is Validate for short lists: no search, and no order.
func errorByHand(l []api.Binding) api.Errno {
	for i, b := range l {
		if b.Name != "a" && b.Name != "b" && b.Name != "c" {
			return api.ErrName
		}
		if b.Object <= 0 || b.From <= 0 || b.To <= -1 {
			return api.ErrRange
		}
		if commitsOf(b) == 0 {
			return api.ErrOrder
		}
		if i == 0 {
			continue
		}
		before := l[i-1]
		if b.Name < before.Name || b.Name == before.Name && b.From <= before.From {
			return api.ErrOrder
		}
		if b.Name == before.Name && (before.To == 0 || before.To > b.From) {
			return api.ErrOrder
		}
	}
	for i, b := range l {
		for _, c := range l[:i] {
			if b.Object == c.Object && commitsOf(b)&commitsOf(c) != 0 {
				return api.ErrDuplicate
			}
		}
	}
	return api.OK
}

// bindings returns all bindings of some names, some objects and of all spans
// between two numbers; To is 0, too.
func bindings(names []string, objects []int, first, last int) []api.Binding {
	var all []api.Binding
	for _, name := range names {
		for _, object := range objects {
			for from := first; from <= last; from++ {
				for to := min(first, 0); to <= last; to++ {
					all = append(all, bound(name, object, from, to))
				}
			}
		}
	}
	return all
}

// shortLists calls f with all lists of up to two bindings of some names, objects
// and spans, faulty ones included, and with all lists of three bindings of two
// names and two objects, which can be faulty only by what stands beside them.
func shortLists(f func(l []api.Binding)) {
	f(nil)
	wide := bindings([]string{"", "a", "b", "B"}, []int{-1, 0, 1, 2}, -1, 3)
	for _, a := range wide {
		f(list(a))
		for _, b := range wide {
			f(list(a, b))
		}
	}
	var narrow []api.Binding
	for _, a := range bindings([]string{"a", "b"}, []int{1, 2}, 1, 4) {
		if a.To == 0 || a.To >= a.From {
			narrow = append(narrow, a)
		}
	}
	for _, a := range narrow {
		for _, b := range narrow {
			for _, c := range narrow {
				f(list(a, b, c))
			}
		}
	}
}

// validShortLists calls f with the short lists that are without fault.
func validShortLists(f func(l []api.Binding)) {
	shortLists(func(l []api.Binding) {
		if errorByHand(l) == api.OK {
			f(l)
		}
	})
}

func TestValidateOfShortLists(t *testing.T) { // P18.1
	valid := 0
	shortLists(func(l []api.Binding) {
		e, want := Validate(l), errorByHand(l)
		if e != want {
			t.Fatalf("Validate(%v) = %d; want %d", l, e, want)
		}
		if e == api.OK {
			valid++
		}
	})
	if valid < 1000 {
		t.Errorf("only %d of the lists are valid", valid)
	}
}

func TestLookup(t *testing.T) { // P18.2
	l := list(bound("a", 3, 2, 5), bound("a", 4, 5, 8), bound("a", 3, 10, 0), bound("aa", 7, 3, 0), bound("b", 6, 2, 3))
	for _, x := range []struct {
		l              []api.Binding
		name           string
		commit, object int
		ok             bool
	}{
		{nil, "a", 1, 0, false}, {nil, "", 0, 0, false}, {list(), "a", math.MaxInt, 0, false},
		{l, "a", math.MinInt, 0, false}, {l, "a", -1, 0, false}, {l, "a", 0, 0, false}, {l, "a", 1, 0, false},
		{l, "a", 2, 3, true}, {l, "a", 4, 3, true}, {l, "a", 5, 4, true}, {l, "a", 7, 4, true}, {l, "a", 8, 0, false}, {l, "a", 9, 0, false},
		{l, "a", 10, 3, true}, {l, "a", math.MaxInt, 3, true}, {l, "aa", 2, 0, false}, {l, "aa", 3, 7, true}, {l, "aa", 9, 7, true},
		{l, "b", 1, 0, false}, {l, "b", 2, 6, true}, {l, "b", 3, 0, false},
		{l, "c", 2, 0, false}, {l, "", 2, 0, false}, {l, "A", 2, 0, false}, {l, "a ", 2, 0, false}, {l, "ab", 9, 0, false}, {l, "a\x00", 9, 0, false},
		{list(bound("a", 1, math.MaxInt, 0)), "a", math.MaxInt, 1, true}, {list(bound("a", 1, math.MaxInt, 0)), "a", math.MaxInt - 1, 0, false},
		{list(bound("a", 1, 1, math.MaxInt)), "a", math.MaxInt, 0, false}, {list(bound("a", 1, 1, math.MaxInt)), "a", math.MaxInt - 1, 1, true},
		// Any list counts, valid or not, and of several bindings the first one.
		{list(bound("b", 1, 1, 0), bound("a", 2, 1, 0)), "a", 1, 2, true}, {list(bound("a", 2, 1, 0), bound("a", 1, 1, 0)), "a", 5, 2, true},
		{list(bound("a", 1, 9, 0), bound("a", 2, 3, 0), bound("a", 3, 1, 0)), "a", 4, 2, true},
		{list(bound("a", 1, 3, 3), bound("a", 2, 3, 2), bound("a", 3, 2, 3), bound("a", 4, 2, 0)), "a", 3, 4, true},
		{list(bound("", 5, 1, 0)), "", 1, 5, true}, {list(bound("Ä\xff", 5, 1, 0)), "Ä\xff", 1, 5, true}, {list(bound("A", 5, 1, 0)), "a", 1, 0, false},
		{list(bound("a", 0, 1, 0)), "a", 1, 0, true}, {list(bound("a", -4, 1, 0)), "a", 1, -4, true}, {list(bound("a", math.MinInt, 1, 0)), "a", 1, math.MinInt, true},
		{list(bound("a", 1, 0, 0)), "a", 0, 1, true}, {list(bound("a", 1, -5, -2)), "a", -3, 1, true}, {list(bound("a", 1, -5, -2)), "a", -2, 0, false},
		{list(bound("a", 1, -5, 0)), "a", -5, 1, true}, {list(bound("a", 1, -5, 0)), "a", -6, 0, false}, {list(bound("a", 1, 1, -1)), "a", 5, 0, false},
		{list(bound("a", 1, math.MinInt, 0)), "a", math.MinInt, 1, true}, {list(bound("a", 1, math.MinInt, math.MinInt)), "a", math.MinInt, 0, false},
	} {
		if object, ok := Lookup(x.l, x.name, x.commit); object != x.object || ok != x.ok {
			t.Errorf("Lookup(%v, %q, %d) = %d, %v; want %d, %v", x.l, x.name, x.commit, object, ok, x.object, x.ok)
		}
	}
}

func TestList(t *testing.T) { // P18.2
	l := list(bound("a", 3, 2, 5), bound("a", 4, 5, 8), bound("a", 3, 10, 0), bound("aa", 7, 3, 0), bound("b", 6, 2, 3))
	for _, x := range []struct {
		l      []api.Binding
		commit int
		want   []string
	}{
		{nil, 0, nil}, {list(), 1, nil}, {nil, math.MaxInt, nil},
		{l, math.MinInt, nil}, {l, 0, nil}, {l, 1, nil}, {l, 2, []string{"a", "b"}}, {l, 3, []string{"a", "aa"}}, {l, 4, []string{"a", "aa"}},
		{l, 5, []string{"a", "aa"}}, {l, 8, []string{"aa"}}, {l, 9, []string{"aa"}}, {l, 10, []string{"a", "aa"}}, {l, math.MaxInt, []string{"a", "aa"}},
		// Any list counts, valid or not; the names are ascending bytewise, and each
		// of them is there once.
		{list(bound("c", 1, 1, 0), bound("a", 2, 1, 0), bound("b", 3, 1, 0)), 1, []string{"a", "b", "c"}},
		{list(bound("a", 1, 1, 0), bound("a", 2, 1, 0), bound("a", 3, 1, 0)), 1, []string{"a"}},
		{list(bound("b", 1, 1, 0), bound("a", 2, 1, 0), bound("b", 3, 1, 0), bound("a", 2, 1, 0), bound("c", 4, 2, 0)), 1, []string{"a", "b"}},
		{list(bound("b", 1, 1, 0), bound("a", 2, 1, 2), bound("b", 3, 1, 0), bound("a", 2, 3, 0)), 2, []string{"b"}},
		{list(bound("b", 1, 1, 0), bound("c", 1, 1, 0)), 1, []string{"b", "c"}},
		{list(bound("aa", 1, 1, 0), bound("a-", 1, 1, 0), bound("", 1, 1, 0), bound("B", 0, 1, 0), bound("ä", -1, 1, 0), bound("a", 1, 1, 0), bound("\xff", 1, 1, 0)), 1,
			[]string{"", "B", "a", "a-", "aa", "ä", "\xff"}},
		{list(bound("a", 1, -5, -2), bound("b", 1, -4, 0), bound("c", 1, 0, 0), bound("d", 1, -3, -3), bound("e", 1, -9, -3)), -3, []string{"a", "b"}},
		{list(bound("a", 1, 1, -1), bound("b", 1, 4, 3), bound("c", 1, 4, 4)), 4, nil},
		{list(bound("a", 1, math.MinInt, 0), bound("b", 1, math.MinInt, math.MaxInt)), math.MinInt, []string{"a", "b"}},
		{list(bound("a", 1, math.MinInt, 0), bound("b", 1, math.MinInt, math.MaxInt)), math.MaxInt, []string{"a"}},
	} {
		if names := List(x.l, x.commit); !slices.Equal(names, x.want) {
			t.Errorf("List(%v, %d) = %q; want %q", x.l, x.commit, names, x.want)
		}
	}
}

func TestLookupAndListInShortLists(t *testing.T) { // P18.2
	shortLists(func(l []api.Binding) {
		for commit := -1; commit <= lastOfShortLists; commit++ {
			objects := map[string]int{}
			for _, b := range slices.Backward(l) {
				if commitsOf(b)>>(commit+1)&1 == 1 {
					objects[b.Name] = b.Object
				}
			}
			if names, want := List(l, commit), slices.Sorted(maps.Keys(objects)); !slices.Equal(names, want) {
				t.Fatalf("List(%v, %d) = %q; want %q", l, commit, names, want)
			}
			for _, name := range []string{"", "a", "b", "B"} {
				want, found := objects[name]
				if object, ok := Lookup(l, name, commit); object != want || ok != found {
					t.Fatalf("Lookup(%v, %q, %d) = %d, %v; want %d, %v", l, name, commit, object, ok, want, found)
				}
			}
		}
	})
}

// check compares the result of a change with the one that it should have.
func check(t *testing.T, call string, l []api.Binding, e api.Errno, want []api.Binding, wanted api.Errno) {
	t.Helper()
	if !slices.Equal(l, want) || e != wanted {
		t.Errorf("%s = %v, %d; want %v, %d", call, l, e, want, wanted)
	}
}

func TestInvalidListsForChanges(t *testing.T) { // P18.3 to P18.5
	for _, x := range invalidLists() {
		// Whether other arguments are faulty, too, counts after the list.
		for _, commit := range []int{math.MinInt, -1, 0, 1, 9, math.MaxInt} {
			for _, name := range []string{"", "B", "a", "b", "z"} {
				l, e := Bind(x.l, name, commit, commit)
				check(t, "Bind of a faulty list", l, e, nil, x.e)
				l, e = Bind(x.l, name, 77, commit)
				check(t, "Bind of a faulty list", l, e, nil, x.e)
				l, e = Unbind(x.l, name, commit)
				check(t, "Unbind of a faulty list", l, e, nil, x.e)
				l, e = Rename(x.l, name, "y", commit)
				check(t, "Rename of a faulty list", l, e, nil, x.e)
				l, e = Rename(x.l, "a", name, commit)
				check(t, "Rename of a faulty list", l, e, nil, x.e)
			}
		}
	}
}

// base is a valid list in which a and c are open, with the objects 1 and 3.
func base() []api.Binding {
	return list(bound("a", 2, 1, 4), bound("a", 1, 5, 0), bound("b", 1, 2, 5), bound("c", 3, 3, 0))
}

func TestBind(t *testing.T) { // P18.3
	l := base()
	for _, x := range []struct {
		l      []api.Binding
		name   string
		object int
		commit int
		at     int // of the new binding
	}{
		{nil, "a", 1, 1, 0}, {list(), longName, math.MaxInt, math.MaxInt, 0}, {nil, "z", 7, 3, 0},
		{l, "a-", 4, 5, 2}, {l, "b", 4, 5, 3}, {l, "b", 4, 6, 3}, {l, "b", 4, math.MaxInt, 3}, {l, "b0", 4, 7, 3}, {l, "bb", 4, 7, 3},
		{l, "c-", 4, 5, 4}, {l, "d", math.MaxInt, 5, 4}, {l, "aa", 4, 9, 2}, {l, "z", 4, 9, 4},
		// An object without a name can get one again, the same or another one.
		{l, "b", 2, 5, 3}, {l, "d", 2, 5, 4}, {l, "b", 2, 8, 3},
		{list(bound("a", 1, 1, 4)), "a", 1, 4, 1}, {list(bound("a", 1, 1, 4)), "a", 1, 5, 1}, {list(bound("b", 1, 1, 4)), "a", 1, 4, 0},
		{list(bound("b", 1, 1, 4)), "a", 2, 4, 0}, {list(bound("b", 1, 4, 0)), "a", 2, 4, 0}, {list(bound("b", 1, 4, 0)), "c", 2, 4, 1},
		{list(bound("a", 1, 1, 2), bound("a", 1, 2, 3), bound("a", 1, 3, 4), bound("a", 1, 4, 5), bound("b", 2, 1, 0)), "a", 1, 5, 4},
		{list(bound("a", 1, math.MaxInt, 0)), "b", 2, math.MaxInt, 1}, {list(bound("a", 1, 1, math.MaxInt)), "a", 1, math.MaxInt, 1},
	} {
		want := slices.Concat(x.l[:x.at], list(bound(x.name, x.object, x.commit, 0)), x.l[x.at:])
		l, e := Bind(x.l, x.name, x.object, x.commit)
		check(t, "Bind of "+x.name, l, e, want, api.OK)
	}
}

func TestBindWithErrors(t *testing.T) { // P18.3
	l := base()
	for _, x := range []struct {
		l              []api.Binding
		name           string
		object, commit int
		e              api.Errno
	}{
		{l, "d", 0, 9, api.ErrRange}, {l, "d", 4, 0, api.ErrRange}, {l, "d", 0, 0, api.ErrRange}, {nil, "d", 0, 9, api.ErrRange}, {nil, "d", 4, 0, api.ErrRange},
		{l, "d", 4, 4, api.ErrOrder}, {l, "d", 4, 1, api.ErrOrder}, {l, "b", 4, 3, api.ErrOrder},
		{list(bound("a", 1, 1, 4)), "b", 2, 3, api.ErrOrder}, {list(bound("a", 1, 1, 4), bound("b", 2, 3, 0)), "c", 4, 3, api.ErrOrder},
		{list(bound("a", 1, 4, 0)), "b", 2, 3, api.ErrOrder}, {list(bound("a", 1, 4, 0), bound("b", 2, 1, 2)), "c", 4, 3, api.ErrOrder},
		{list(bound("a", 1, 1, math.MaxInt)), "b", 2, math.MaxInt - 1, api.ErrOrder},
		{list(bound("a", 1, math.MaxInt, 0)), "b", 2, math.MaxInt - 1, api.ErrOrder},
		{l, "a", 4, 5, api.ErrDuplicate}, {l, "c", 4, 5, api.ErrDuplicate}, {l, "b", 1, 5, api.ErrDuplicate}, {l, "d", 3, 9, api.ErrDuplicate},
		{l, "a", 1, 9, api.ErrDuplicate}, {l, "a", 3, 9, api.ErrDuplicate}, {l, "c", 3, math.MaxInt, api.ErrDuplicate},
		{list(bound("a", 1, math.MaxInt, 0)), "a", 2, math.MaxInt, api.ErrDuplicate}, {list(bound("a", 1, 1, 0)), "b", 1, 1, api.ErrDuplicate},
		// Of two errors, the one that the chapter lists first counts.
		{l, "d", 0, 4, api.ErrRange}, {l, "a", 0, 9, api.ErrRange}, {l, "a", 1, 0, api.ErrRange}, {l, "d", -1, 1, api.ErrRange},
		{l, "a", 4, 4, api.ErrOrder}, {l, "d", 1, 4, api.ErrOrder}, {l, "a", 1, 1, api.ErrOrder},
	} {
		l, e := Bind(x.l, x.name, x.object, x.commit)
		check(t, "Bind of "+x.name, l, e, nil, x.e)
	}
}

func TestUnbind(t *testing.T) { // P18.4
	for _, x := range []struct {
		l      []api.Binding
		name   string
		commit int
		at     int // of the changed binding
	}{
		{base(), "a", 6, 1}, {base(), "a", 7, 1}, {base(), "a", math.MaxInt, 1}, {base(), "c", 5, 3}, {base(), "c", 9, 3},
		{list(bound("a", 1, 1, 0)), "a", 2, 0}, {list(bound("a", 1, math.MaxInt-1, 0)), "a", math.MaxInt, 0}, {list(bound(longName, 1, 1, 0)), longName, 9, 0},
		{list(bound("a", 1, 1, 0), bound("b", 2, 3, 0)), "a", 3, 0}, {list(bound("a", 1, 1, 0), bound("b", 2, 1, 3)), "a", 3, 0},
	} {
		want := slices.Clone(x.l)
		want[x.at].To = x.commit
		l, e := Unbind(x.l, x.name, x.commit)
		check(t, "Unbind of "+x.name, l, e, want, api.OK)
	}
}

func TestUnbindWithErrors(t *testing.T) { // P18.4
	l := base()
	for _, x := range []struct {
		l      []api.Binding
		name   string
		commit int
		e      api.Errno
	}{
		{l, "a", 0, api.ErrRange}, {nil, "a", 0, api.ErrRange},
		{l, "a", 4, api.ErrOrder}, {l, "c", 4, api.ErrOrder}, {l, "a", 1, api.ErrOrder},
		{list(bound("a", 1, 1, 0), bound("b", 2, 2, 5)), "a", 4, api.ErrOrder}, {list(bound("a", 1, 1, 0), bound("b", 2, 5, 0)), "a", 4, api.ErrOrder},
		{l, "b", 5, api.ErrUnknown}, {l, "b", 9, api.ErrUnknown}, {l, "d", 9, api.ErrUnknown}, {l, "a-", math.MaxInt, api.ErrUnknown},
		{nil, "a", 1, api.ErrUnknown}, {list(), "a", math.MaxInt, api.ErrUnknown}, {list(bound("a", 1, 1, 2)), "a", 2, api.ErrUnknown},
		// The last error is that of a commit that is the From of the binding.
		{l, "a", 5, api.ErrOrder}, {list(bound("a", 1, 1, 0)), "a", 1, api.ErrOrder}, {list(bound("a", 1, math.MaxInt, 0)), "a", math.MaxInt, api.ErrOrder},
		// Of two errors, the one that the chapter lists first counts.
		{l, "d", 0, api.ErrRange}, {l, "b", 0, api.ErrRange}, {l, "d", 4, api.ErrOrder}, {l, "b", 4, api.ErrOrder},
	} {
		l, e := Unbind(x.l, x.name, x.commit)
		check(t, "Unbind of "+x.name, l, e, nil, x.e)
	}
}

func TestRename(t *testing.T) { // P18.5
	for _, x := range []struct {
		l        []api.Binding
		from, to string
		commit   int
		want     []api.Binding
	}{
		{base(), "a", "b", 6, list(bound("a", 2, 1, 4), bound("a", 1, 5, 6), bound("b", 1, 2, 5), bound("b", 1, 6, 0), bound("c", 3, 3, 0))},
		{base(), "a", "d", 9, list(bound("a", 2, 1, 4), bound("a", 1, 5, 9), bound("b", 1, 2, 5), bound("c", 3, 3, 0), bound("d", 1, 9, 0))},
		{base(), "a", "a-", 9, list(bound("a", 2, 1, 4), bound("a", 1, 5, 9), bound("a-", 1, 9, 0), bound("b", 1, 2, 5), bound("c", 3, 3, 0))},
		{base(), "c", "b", 5, list(bound("a", 2, 1, 4), bound("a", 1, 5, 0), bound("b", 1, 2, 5), bound("b", 3, 5, 0), bound("c", 3, 3, 5))},
		{base(), "c", "aa", 5, list(bound("a", 2, 1, 4), bound("a", 1, 5, 0), bound("aa", 3, 5, 0), bound("b", 1, 2, 5), bound("c", 3, 3, 5))},
		{base(), "c", "c0", math.MaxInt, list(bound("a", 2, 1, 4), bound("a", 1, 5, 0), bound("b", 1, 2, 5), bound("c", 3, 3, math.MaxInt), bound("c0", 3, math.MaxInt, 0))},
		{list(bound("b", 4, 2, 0)), "b", "a", 3, list(bound("a", 4, 3, 0), bound("b", 4, 2, 3))},
		{list(bound("b", 4, 2, 0)), "b", longName, 3, list(bound(longName, 4, 3, 0), bound("b", 4, 2, 3))},
		{list(bound("a", 7, 1, 2), bound("b", 7, 2, 0)), "b", "a", 3, list(bound("a", 7, 1, 2), bound("a", 7, 3, 0), bound("b", 7, 2, 3))},
		{list(bound("a", 7, 1, 0), bound("b", 6, 2, 3)), "a", "b", 3, list(bound("a", 7, 1, 3), bound("b", 6, 2, 3), bound("b", 7, 3, 0))},
	} {
		l, e := Rename(x.l, x.from, x.to, x.commit)
		check(t, "Rename of "+x.from+" to "+x.to, l, e, x.want, api.OK)
	}
}

func TestRenameWithErrors(t *testing.T) { // P18.5
	l := base()
	for _, x := range []struct {
		l        []api.Binding
		from, to string
		commit   int
		e        api.Errno
	}{
		{l, "a", "d", 0, api.ErrRange}, {nil, "a", "d", 0, api.ErrRange},
		{l, "a", "d", 4, api.ErrOrder}, {l, "c", "d", 4, api.ErrOrder}, {l, "a", "d", 1, api.ErrOrder},
		{list(bound("a", 1, 1, 0), bound("b", 2, 2, 5)), "a", "c", 4, api.ErrOrder}, {list(bound("a", 1, 1, 0), bound("b", 2, 5, 0)), "a", "c", 4, api.ErrOrder},
		{l, "b", "d", 5, api.ErrUnknown}, {l, "d", "e", 9, api.ErrUnknown}, {nil, "a", "b", 1, api.ErrUnknown}, {nil, "a", "a", 1, api.ErrUnknown},
		{l, "a", "c", 6, api.ErrDuplicate}, {l, "c", "a", 6, api.ErrDuplicate}, {l, "a", "a", 6, api.ErrDuplicate}, {l, "c", "c", 5, api.ErrDuplicate},
		// The last error is that of a commit that is the From of the binding.
		{l, "a", "d", 5, api.ErrOrder}, {l, "a", "b", 5, api.ErrOrder}, {list(bound("a", 1, 1, 0)), "a", "b", 1, api.ErrOrder},
		{list(bound("a", 1, math.MaxInt, 0)), "a", "b", math.MaxInt, api.ErrOrder},
		// Of two errors, the one that the chapter lists first counts.
		{l, "d", "e", 0, api.ErrRange}, {l, "a", "c", 0, api.ErrRange}, {l, "d", "e", 4, api.ErrOrder}, {l, "a", "c", 4, api.ErrOrder},
		{l, "b", "a", 9, api.ErrUnknown}, {l, "b", "b", 9, api.ErrUnknown}, {l, "d", "a", 5, api.ErrUnknown},
		{l, "a", "c", 5, api.ErrDuplicate}, {l, "a", "a", 5, api.ErrDuplicate},
	} {
		l, e := Rename(x.l, x.from, x.to, x.commit)
		check(t, "Rename of "+x.from+" to "+x.to, l, e, nil, x.e)
	}
}

func TestChangesWithWrongNamesAndNegativeNumbers(t *testing.T) { // P18.3 to P18.5
	for _, l := range [][]api.Binding{nil, list(), base(), longList()} {
		for _, name := range wrongNames {
			// All errors but that of the list are after ErrName.
			for _, n := range []int{math.MinInt, -1, 0, 1, 5, 9999, math.MaxInt} {
				for _, other := range []string{"", "a", "c", "z"} {
					changed, e := Rename(l, name, other, n)
					check(t, "Rename of "+name+" to "+other, changed, e, nil, api.ErrName)
					changed, e = Rename(l, other, name, n)
					check(t, "Rename of "+other+" to "+name, changed, e, nil, api.ErrName)
				}
				changed, e := Bind(l, name, n, 9999)
				check(t, "Bind of "+name, changed, e, nil, api.ErrName)
				changed, e = Bind(l, name, 9999, n)
				check(t, "Bind of "+name, changed, e, nil, api.ErrName)
				changed, e = Unbind(l, name, n)
				check(t, "Unbind of "+name, changed, e, nil, api.ErrName)
			}
		}
		for _, n := range negativeNumbers {
			for _, name := range []string{"a", "b", "z", longName} {
				changed, e := Bind(l, name, n, 9999)
				check(t, "Bind of "+name, changed, e, nil, api.ErrRange)
				changed, e = Bind(l, name, 9999, n)
				check(t, "Bind of "+name, changed, e, nil, api.ErrRange)
				changed, e = Unbind(l, name, n)
				check(t, "Unbind of "+name, changed, e, nil, api.ErrRange)
				changed, e = Rename(l, name, "y", n)
				check(t, "Rename of "+name, changed, e, nil, api.ErrRange)
				changed, e = Rename(l, "c", name, n)
				check(t, "Rename to "+name, changed, e, nil, api.ErrRange)
			}
		}
	}
}

// denoted returns the open bindings of a list as objects by names, and the
// greatest number of a commit in it.
func denoted(l []api.Binding) (objects map[string]api.Binding, last int) {
	objects = map[string]api.Binding{}
	for _, b := range l {
		if b.To == 0 {
			objects[b.Name] = b
		}
		last = max(last, b.From, b.To)
	}
	return objects, last
}

// bindByHand is Bind for valid short lists.
func bindByHand(l []api.Binding, name string, object, commit int) ([]api.Binding, api.Errno) {
	open, last := denoted(l)
	if name == "" || name == "B" {
		return nil, api.ErrName
	}
	if object < 1 || commit < 1 {
		return nil, api.ErrRange
	}
	if commit < last {
		return nil, api.ErrOrder
	}
	for other, b := range open {
		if other == name || b.Object == object {
			return nil, api.ErrDuplicate
		}
	}
	more := append(slices.Clone(l), bound(name, object, commit, 0))
	slices.SortStableFunc(more, func(a, b api.Binding) int { return strings.Compare(a.Name, b.Name) })
	return more, api.OK
}

// unbindByHand is Unbind for valid short lists.
func unbindByHand(l []api.Binding, name string, commit int) ([]api.Binding, api.Errno) {
	open, last := denoted(l)
	if name == "" || name == "B" {
		return nil, api.ErrName
	}
	if commit < 1 {
		return nil, api.ErrRange
	}
	if commit < last {
		return nil, api.ErrOrder
	}
	b, ok := open[name]
	if !ok {
		return nil, api.ErrUnknown
	}
	if commit == b.From {
		return nil, api.ErrOrder
	}
	less := slices.Clone(l)
	less[slices.Index(less, b)].To = commit
	return less, api.OK
}

// renameByHand is Rename for valid short lists: Unbind and then Bind, but for
// the order of the errors.
func renameByHand(l []api.Binding, from, to string, commit int) ([]api.Binding, api.Errno) {
	open, last := denoted(l)
	object := open[from].Object
	less, e := unbindByHand(l, from, commit)
	if e == api.ErrName || to == "" || to == "B" {
		return nil, api.ErrName
	}
	if e == api.OK || e == api.ErrOrder && commit >= last {
		if _, bound := open[to]; bound {
			return nil, api.ErrDuplicate
		}
	}
	if e != api.OK {
		return nil, e
	}
	return bindByHand(less, to, object, commit)
}

func TestChangesOfShortLists(t *testing.T) { // P18.3 to P18.5
	names := []string{"", "a", "b", "c", "B"}
	validShortLists(func(l []api.Binding) {
		same := func(call string, got []api.Binding, e api.Errno, want []api.Binding, wanted api.Errno) {
			if !slices.Equal(got, want) || e != wanted {
				t.Fatalf("%s of %v = %v, %d; want %v, %d", call, l, got, e, want, wanted)
			}
			if e == api.OK && errorByHand(got) != api.OK {
				t.Fatalf("%s of %v = %v, which is not valid", call, l, got)
			}
		}
		for commit := -1; commit < lastOfShortLists; commit++ {
			for _, name := range names {
				at := name + " at " + strconv.Itoa(commit)
				for object := -1; object <= 3; object++ {
					got, e := Bind(l, name, object, commit)
					want, wanted := bindByHand(l, name, object, commit)
					same("Bind "+at+" to "+strconv.Itoa(object), got, e, want, wanted)
				}
				got, e := Unbind(l, name, commit)
				want, wanted := unbindByHand(l, name, commit)
				same("Unbind "+at, got, e, want, wanted)
				for _, to := range names {
					got, e := Rename(l, name, to, commit)
					want, wanted := renameByHand(l, name, to, commit)
					same("Rename "+at+" to "+to, got, e, want, wanted)
				}
			}
		}
	})
}

func TestPrune(t *testing.T) { // P18.6
	l := list(bound("a", 1, 2, 5), bound("a", 2, 5, 8), bound("a", 3, 10, 0), bound("b", 4, 10, 12), bound("c", 5, 1, 0))
	for _, x := range []struct {
		l    []api.Binding
		p    []api.Pin
		keep []int // of the list, in order
	}{
		{nil, nil, nil}, {list(), pinned(1), nil}, {nil, []api.Pin{}, nil},
		{list(bound("a", 1, 1, 0)), nil, []int{0}}, {list(bound("a", 1, 5, 0)), pinned(1), []int{0}}, {list(bound("a", 1, 5, 0)), pinned(7), []int{0}},
		{list(bound("a", 1, 1, 2)), nil, nil}, {list(bound("a", 1, 1, 2)), pinned(1), []int{0}}, {list(bound("a", 1, 1, 2)), pinned(0), nil}, {list(bound("a", 1, 1, 2)), pinned(2), nil},
		{l, nil, []int{2, 4}}, {l, []api.Pin{}, []int{2, 4}}, {l, pinned(1), []int{2, 4}}, {l, pinned(2), []int{0, 2, 4}}, {l, pinned(4), []int{0, 2, 4}},
		{l, pinned(5), []int{1, 2, 4}}, {l, pinned(7), []int{1, 2, 4}}, {l, pinned(8, 9), []int{2, 4}}, {l, pinned(10), []int{2, 3, 4}}, {l, pinned(11), []int{2, 3, 4}},
		{l, pinned(12), []int{2, 4}}, {l, pinned(3, 6), []int{0, 1, 2, 4}}, {l, pinned(0, 1, 4, 11), []int{0, 2, 3, 4}}, {l, pinned(3, 7, 10), []int{0, 1, 2, 3, 4}},
		{l, pinned(11, 7, 3), []int{0, 1, 2, 3, 4}}, {l, pinned(math.MaxInt, math.MinInt), []int{2, 4}},
		// Any lists count, valid or not; only a To of 0 means without end.
		{list(bound("b", 0, 7, 9), bound("", -1, 0, 0), bound("a", 1, 2, 5), bound("a", 1, 2, 5)), nil, []int{1}},
		{list(bound("b", 0, 7, 9), bound("", -1, 0, 0), bound("a", 1, 2, 5), bound("a", 1, 2, 5)), pinned(3), []int{1, 2, 3}},
		{list(bound("b", 0, 7, 9), bound("", -1, 0, 0), bound("a", 1, 2, 5), bound("a", 1, 2, 5)), pinned(8, 1), []int{0, 1}},
		{list(bound("a", 1, 4, 4), bound("a", 1, 4, 3), bound("a", 1, 1, -1)), pinned(1, 3, 4), nil},
		{list(bound("a", 1, -5, -2), bound("a", 1, -2, 0)), pinned(-3), []int{0, 1}}, {list(bound("a", 1, -5, -2), bound("a", 1, -9, 0)), pinned(-2, -6), []int{1}},
		{list(bound("a", 1, math.MinInt, math.MaxInt)), pinned(0), []int{0}}, {list(bound("a", 1, math.MinInt, math.MaxInt)), pinned(math.MaxInt), nil},
		{list(bound("a", 1, 2, 5)), []api.Pin{{Commit: 3}}, []int{0}}, {list(bound("a", 1, 2, 5)), []api.Pin{{Commit: 3, Count: -1}}, []int{0}},
		{list(bound("a", 1, 2, 5), bound("b", 1, 2, 5)), []api.Pin{{Commit: 3, Count: 1 << 20}, {Commit: 3, Count: 1}}, []int{0, 1}},
	} {
		var want []api.Binding
		for _, i := range x.keep {
			want = append(want, x.l[i])
		}
		if rest := Prune(x.l, x.p); !slices.Equal(rest, want) {
			t.Errorf("Prune(%v, %v) = %v; want %v", x.l, x.p, rest, want)
		}
	}
}

func TestPruneOfShortLists(t *testing.T) { // P18.6
	shortLists(func(l []api.Binding) {
		for _, p := range [][]api.Pin{nil, pinned(-1), pinned(0), pinned(1), pinned(2), pinned(3), pinned(3, 1), pinned(0, 2)} {
			var want []api.Binding
			for _, b := range l {
				stays := b.To == 0
				for _, pin := range p {
					stays = stays || commitsOf(b)>>(pin.Commit+1)&1 == 1
				}
				if stays {
					want = append(want, b)
				}
			}
			if rest := Prune(l, p); !slices.Equal(rest, want) {
				t.Fatalf("Prune(%v, %v) = %v; want %v", l, p, rest, want)
			}
		}
	})
}

func TestPruneOfALongList(t *testing.T) { // P18.6
	l := longList()
	for _, x := range []struct {
		p    []api.Pin
		want int
	}{
		{nil, 900}, {pinned(9), 900}, {pinned(10), 901}, {pinned(11), 902}, {pinned(999), 1800}, {pinned(1000), 901},
		{pinned(1004), 905}, {pinned(1999), 1800}, {pinned(2000), 900}, {pinned(999, 1999), 2700},
	} {
		if rest := Prune(l, x.p); len(rest) != x.want || Validate(rest) != api.OK {
			t.Errorf("Prune with %v keeps %d bindings, with the error %d; want %d", x.p, len(rest), Validate(rest), x.want)
		}
	}
}

// record is a directory as the objects of the names at each commit.
type record []map[string]int

// checkRecord compares a list with its record at some commits.
func checkRecord(t *testing.T, l []api.Binding, r record, commits []int) {
	t.Helper()
	if e := Validate(l); e != api.OK {
		t.Fatalf("Validate(%v) = %d", l, e)
	}
	for _, commit := range commits {
		// The state after the last commit goes on.
		want := r[min(commit, len(r)-1)]
		if names := List(l, commit); !slices.Equal(names, slices.Sorted(maps.Keys(want))) {
			t.Fatalf("List(%v, %d) = %q; want %v", l, commit, names, want)
		}
		for name := range 5 {
			s := string(rune('a' + name))
			object, ok := Lookup(l, s, commit)
			if wanted, bound := want[s]; object != wanted || ok != bound {
				t.Fatalf("Lookup(%v, %q, %d) = %d, %v; want %d, %v", l, s, commit, object, ok, wanted, bound)
			}
		}
	}
}

func TestManyCallsComparedWithARecordOfEachCommit(t *testing.T) { // P18.1 to P18.6
	for seed := uint32(1); seed <= 150; seed++ {
		x := seed
		draw := func(n int) int {
			x = x*1664525 + 1013904223
			return int(x>>16) % n
		}
		var l []api.Binding
		r := record{nil}
		commits := []int{0, 1} // at which the list shows the record
		for range 60 {
			commit := len(r)
			now := maps.Clone(r[commit-1])
			if now == nil {
				now = map[string]int{}
			}
			next, e, want := changeBoth(l, now, draw, commit)
			if e != want || e != api.OK && len(next) != 0 {
				t.Fatalf("a change of %v at %d gives %v, %d; want %d", l, commit, next, e, want)
			}
			if e == api.OK {
				l = next
				r = append(r, now)
				commits = append(commits, commit+1)
			}
			checkRecord(t, l, r, commits)
			if draw(8) == 0 {
				// What is pinned, and what is current, stays.
				p := pinned(commits[draw(len(commits))], commits[draw(len(commits))])
				l = Prune(l, p)
				commits = []int{p[0].Commit, p[1].Commit, len(r) - 1, len(r)}
				checkRecord(t, l, r, commits)
			}
		}
	}
}

// changeBoth makes a drawn change of a list and, if it is possible, of the
// objects of the names, and returns the results and the error that is wanted.
func changeBoth(l []api.Binding, now map[string]int, draw func(int) int, commit int) (next []api.Binding, e, want api.Errno) {
	name, other := string(rune('a'+draw(5))), string(rune('a'+draw(5)))
	object := 1 + draw(7)
	_, named := now[name]
	_, others := now[other]
	switch draw(4) {
	case 0, 1:
		next, e = Bind(l, name, object, commit)
		if named || slices.Contains(slices.Collect(maps.Values(now)), object) {
			return next, e, api.ErrDuplicate
		}
		now[name] = object
	case 2:
		next, e = Unbind(l, name, commit)
		if !named {
			return next, e, api.ErrUnknown
		}
		delete(now, name)
	case 3:
		next, e = Rename(l, name, other, commit)
		if !named {
			return next, e, api.ErrUnknown
		}
		if others {
			return next, e, api.ErrDuplicate
		}
		now[other] = now[name]
		delete(now, name)
	}
	return next, e, api.OK
}

func TestChangesOfALongList(t *testing.T) { // P18.3 to P18.5
	l := longList()
	for i := 0; i < len(l); i += 37 {
		name := l[i].Name
		at := slices.IndexFunc(l, func(b api.Binding) bool { return b.Name == name && b.To == 0 })
		less := slices.Clone(l)
		less[at].To = 3000
		got, e := Unbind(l, name, 3000)
		check(t, "Unbind of "+name, got, e, less, api.OK)
		got, e = Bind(less, name, 5000, 3000)
		check(t, "Bind of "+name, got, e, slices.Insert(slices.Clone(less), at+1, bound(name, 5000, 3000, 0)), api.OK)
		got, e = Bind(l, name+"-", 5000, 3000)
		check(t, "Bind of "+name+"-", got, e, slices.Insert(slices.Clone(l), at+1, bound(name+"-", 5000, 3000, 0)), api.OK)
		got, e = Rename(l, name, name+"-", 3000)
		check(t, "Rename of "+name, got, e, slices.Insert(slices.Clone(less), at+1, bound(name+"-", l[at].Object, 3000, 0)), api.OK)
		got, e = Rename(l, name, "a", 3000)
		check(t, "Rename of "+name, got, e, slices.Insert(slices.Clone(less), 0, bound("a", l[at].Object, 3000, 0)), api.OK)
	}
}

func TestExampleOfTheChapter(t *testing.T) { // P18.3, P18.5
	l, e := Bind(nil, "a", 1, 1)
	check(t, "Bind", l, e, list(bound("a", 1, 1, 0)), api.OK)
	l, e = Rename(l, "a", "b", 2)
	check(t, "Rename", l, e, list(bound("a", 1, 1, 2), bound("b", 1, 2, 0)), api.OK)
}

// roomy returns a list like l, which has spare capacity.
func roomy(l []api.Binding) []api.Binding {
	all := append(make([]api.Binding, 0, len(l)+3), l...)
	return append(all, bound("x", 77, 77, 78), bound("y", 78, 77, 0))[:len(l)]
}

// spoil overwrites a list and its spare capacity.
func spoil(l []api.Binding) {
	for i := range l[:cap(l)] {
		l[:cap(l)][i] = bound("?", -9, -9, -9)
	}
}

// checkSeparate makes a change of a list twice, and checks that neither the list
// nor its spare capacity shows in a result or changes, and that the results share
// no memory.
func checkSeparate(t *testing.T, name string, l, want []api.Binding, change func([]api.Binding) []api.Binding) {
	t.Helper()
	l = roomy(l)
	before := slices.Clone(l[:cap(l)])
	first, second := change(l), change(l)
	if !slices.Equal(first, want) || !slices.Equal(second, want) || !slices.Equal(l[:cap(l)], before) {
		t.Fatalf("%s of %v gives %v and %v; want %v, and the argument as it was", name, l, first, second, want)
	}
	spoil(first)
	if !slices.Equal(second, want) || !slices.Equal(l[:cap(l)], before) {
		t.Errorf("a result of %s shares memory", name)
	}
	spoil(l)
	if !slices.Equal(second, want) {
		t.Errorf("the result of %s changes with its argument", name)
	}
}

func TestResultsShareNoMemory(t *testing.T) { // R2
	bind := func(l []api.Binding) []api.Binding {
		more, _ := Bind(l, "b", 9, 9)
		return more
	}
	b := bound("b", 9, 9, 0)
	checkSeparate(t, "Bind", nil, list(b), bind)
	checkSeparate(t, "Bind", list(bound("a", 1, 5, 0)), list(bound("a", 1, 5, 0), b), bind)
	checkSeparate(t, "Bind", list(bound("c", 1, 5, 0)), list(b, bound("c", 1, 5, 0)), bind)
	checkSeparate(t, "Bind", base(), slices.Insert(base(), 3, b), bind)
	checkSeparate(t, "Unbind", base(), list(bound("a", 2, 1, 4), bound("a", 1, 5, 7), bound("b", 1, 2, 5), bound("c", 3, 3, 0)), func(l []api.Binding) []api.Binding {
		less, _ := Unbind(l, "a", 7)
		return less
	})
	checkSeparate(t, "Rename", base(), list(bound("a", 2, 1, 4), bound("a", 1, 5, 7), bound("b", 1, 2, 5), bound("b", 1, 7, 0), bound("c", 3, 3, 0)), func(l []api.Binding) []api.Binding {
		renamed, _ := Rename(l, "a", "b", 7)
		return renamed
	})
	for _, x := range []struct {
		p    []api.Pin
		want []api.Binding
	}{{pinned(3), base()}, {nil, list(base()[1], base()[3])}, {pinned(4), base()[1:]}} {
		checkSeparate(t, "Prune", base(), x.want, func(l []api.Binding) []api.Binding { return Prune(l, x.p) })
	}
	checkSeparate(t, "Prune", list(bound("a", 1, 1, 0)), list(bound("a", 1, 1, 0)), func(l []api.Binding) []api.Binding { return Prune(l, nil) })
}

func TestReadingAndErrorsChangeNothing(t *testing.T) { // R2, R5
	shared := list(bound("c", 2, 2, 9), bound("a", 1, 5, 0), bound("b", 1, 2, 0), bound("a", 1, 3, 0))
	byObject := list(bound("a", 9, 2, 0), bound("b", 8, 3, 0), bound("c", 7, 1, 0))
	for _, x := range [][]api.Binding{base(), shared, byObject} {
		l := roomy(x)
		before := slices.Clone(l[:cap(l)])
		p := append(make([]api.Pin, 0, 4), pinned(8, 3)...)
		Validate(l)
		Lookup(l, "a", 7)
		first, second := List(l, 7), List(l, 7)
		want := slices.Clone(first)
		clear(second[:cap(second)])
		Bind(l, "a", 5, 9)
		Bind(l, "", 5, 9)
		Bind(l, "d", 1, 1)
		Unbind(l, "d", 9)
		Unbind(l, "a", 5)
		Rename(l, "a", "c", 9)
		Rename(l, "a", "d", 5)
		Prune(l, p)
		if !slices.Equal(l[:cap(l)], before) || !slices.Equal(p[:4], append(pinned(8, 3), api.Pin{}, api.Pin{})) {
			t.Errorf("a call that changes nothing changes %v to %v, or the pins to %v", before, l[:cap(l)], p[:4])
		}
		if !slices.Equal(first, want) {
			t.Errorf("two results of List share memory")
		}
	}
}
