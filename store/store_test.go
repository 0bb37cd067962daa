package store

import (
	"bytes"
	"cmp"
	"fmt"
	"maps"
	"math"
	"slices"
	"strings"
	"testing"

	"sketchstore/api"
	"sketchstore/chain"
	"sketchstore/directory"
	"sketchstore/pins"
)

// The limits of the chapter, written once more so that a wrong one shows.
const (
	mostData     = 65536
	mostPages    = 16384
	mostPageSize = 1024
)

// small is a configuration whose capacities are soon exhausted.
func small() api.Config {
	return api.Config{Sessions: 1, Names: 3, Pages: 8, PageSize: 8, Pins: 4, Commits: 20, Chunk: 1}
}

// large is a configuration in which all capacities are the limits.
func large() api.Config {
	return api.Config{Sessions: 64, Names: 64, Pages: mostPages, PageSize: mostPageSize, Pins: 1024, Commits: 1 << 20, Chunk: 64}
}

func bound(name string, object, from, to int) api.Binding {
	return api.Binding{Name: name, Object: object, From: from, To: to}
}

func version(from, to, size int, pages ...int) api.Version {
	return api.Version{From: from, To: to, Size: size, Pages: pages}
}

func object(id int, l ...api.Version) api.Object {
	return api.Object{ID: id, Versions: l}
}

func page(number, refs int, text string) api.Page {
	return api.Page{Number: number, Refs: refs, Data: []byte(text)}
}

func pin(commit, count int) api.Pin {
	return api.Pin{Commit: commit, Count: count}
}

// open returns an empty store.
func open(t *testing.T, c api.Config) *Store {
	t.Helper()
	s, e := New(c)
	if s == nil || e != api.OK {
		t.Fatalf("New(%v) = %v, %d", c, s, e)
	}
	return s
}

// commits checks the results of a call that makes a commit, which is the number
// want.
func commits(t *testing.T, want int) func(int, api.Errno) {
	return func(n int, e api.Errno) {
		t.Helper()
		if n != want || e != api.OK {
			t.Fatalf("a call returns %d, %d; want commit %d", n, e, want)
		}
	}
}

// succeeds checks that calls return no error.
func succeeds(t *testing.T, l ...api.Errno) {
	t.Helper()
	for i, e := range l {
		if e != api.OK {
			t.Fatalf("call %d returns error %d", i, e)
		}
	}
}

// fails checks that a call returns an error and nothing else, and changes nothing.
func fails(t *testing.T, s *Store, call string, want api.Errno, f func() (int, api.Errno)) {
	t.Helper()
	before := s.Dump()
	if n, e := f(); n != 0 || e != want {
		t.Errorf("%s = %d, %d; want error %d", call, n, e, want)
	}
	if after := s.Dump(); !sameDump(after, before) {
		t.Errorf("%s changes %v to %v", call, before, after)
	}
}

// alone gives a call that returns only an error the form that fails takes.
func alone(e api.Errno) (int, api.Errno) { return 0, e }

func sameVersion(a, b api.Version) bool {
	return a.From == b.From && a.To == b.To && a.Size == b.Size && slices.Equal(a.Pages, b.Pages)
}

// sameDump compares two dumps; a nil list and an empty one are equal.
func sameDump(a, b api.Dump) bool {
	return a.Commit == b.Commit && slices.Equal(a.Bindings, b.Bindings) && slices.Equal(a.Pins, b.Pins) &&
		slices.EqualFunc(a.Objects, b.Objects, func(x, y api.Object) bool {
			return x.ID == y.ID && slices.EqualFunc(x.Versions, y.Versions, sameVersion)
		}) &&
		slices.EqualFunc(a.Pages, b.Pages, func(x, y api.Page) bool {
			return x.Number == y.Number && x.Refs == y.Refs && bytes.Equal(x.Data, y.Data)
		})
}

// textIn returns the bytes of a version in a dump.
func textIn(d api.Dump, v api.Version) string {
	text := ""
	for _, n := range v.Pages {
		for _, p := range d.Pages {
			if p.Number == n {
				text += string(p.Data)
			}
		}
	}
	return text
}

// shown is what a name shows after a commit.
type shown struct {
	object, from int
	text         string
	e            api.Errno
}

// show returns what a store shows of a name after a commit.
func show(t *testing.T, s *Store, name string, commit int) shown {
	t.Helper()
	object, from, e := s.Version(name, commit)
	b, f := s.Read(name, commit)
	if e != f {
		t.Fatalf("after commit %d Version(%q) returns error %d, and Read %d", commit, name, e, f)
	}
	return shown{object, from, string(b), e}
}

// showIn returns what a dump says about a name after a commit.
func showIn(d api.Dump, name string, commit int) shown {
	if e := errorOf(d, commit); e != api.OK {
		return shown{e: e}
	}
	for _, b := range d.Bindings {
		if b.Name != name || commit < b.From || b.To != 0 && commit >= b.To {
			continue
		}
		for _, o := range d.Objects {
			for _, v := range o.Versions {
				if o.ID == b.Object && commit >= v.From && (v.To == 0 || commit < v.To) {
					return shown{o.ID, v.From, textIn(d, v), api.OK}
				}
			}
		}
	}
	return shown{e: api.ErrUnknown}
}

// errorOf returns the error of a commit at which a store is looked at.
func errorOf(d api.Dump, commit int) api.Errno {
	if commit < 0 || commit > d.Commit {
		return api.ErrRange
	}
	for _, p := range d.Pins {
		if p.Commit == commit {
			return api.OK
		}
	}
	if commit == d.Commit {
		return api.OK
	}
	return api.ErrState
}

// check compares everything that shows in a store with a dump.
func check(t *testing.T, s *Store, want api.Dump) {
	t.Helper()
	if d := s.Dump(); !sameDump(d, want) {
		t.Fatalf("Dump() = %v; want %v", d, want)
	}
	held := 0
	for _, p := range want.Pins {
		held += p.Count
	}
	if s.Commit() != want.Commit || s.Live() != len(want.Pages) || s.Pins() != held {
		t.Fatalf("Commit, Live and Pins are %d, %d and %d; want %d, %d and %d", s.Commit(), s.Live(), s.Pins(), want.Commit, len(want.Pages), held)
	}
	asked := map[string]bool{"": true, "A": true, "unknown": true}
	for _, b := range want.Bindings {
		asked[b.Name] = true
	}
	for commit := -1; commit <= want.Commit+1; commit++ {
		var bound []string
		for _, name := range slices.Sorted(maps.Keys(asked)) {
			x := showIn(want, name, commit)
			if x.e == api.OK {
				bound = append(bound, name)
			}
			if y := show(t, s, name, commit); x != y {
				t.Fatalf("after commit %d %q is %v; want %v", commit, name, y, x)
			}
		}
		if l, e := s.Names(commit); !slices.Equal(l, bound) || e != errorOf(want, commit) {
			t.Fatalf("Names(%d) = %q, %d; want %q, %d", commit, l, e, bound, errorOf(want, commit))
		}
	}
}

// put makes a chain of versions: it creates a name with the first text, and puts
// the others.
func put(t *testing.T, s *Store, name string, texts ...string) {
	t.Helper()
	for i, text := range texts {
		want := s.Commit() + 1
		if i == 0 {
			commits(t, want)(s.Create(name, []byte(text)))
		} else {
			commits(t, want)(s.Put(name, []byte(text)))
		}
	}
}

// committer checks the results of calls that make the commits 1, 2, .., and pins
// one of them (or the empty store).
func committer(t *testing.T, s *Store, pinned int) func(int, api.Errno) {
	if pinned == 0 {
		succeeds(t, s.Pin(0))
	}
	last := 0
	return func(n int, e api.Errno) {
		t.Helper()
		last++
		commits(t, last)(n, e)
		if last == pinned {
			succeeds(t, s.Pin(pinned))
		}
	}
}

// capacities lists the fields of a configuration with the limits of the chapter.
var capacities = []struct {
	name        string
	least, most int
	of          func(c *api.Config) *int
}{
	{"Sessions", 1, 64, func(c *api.Config) *int { return &c.Sessions }},
	{"Names", 1, 64, func(c *api.Config) *int { return &c.Names }},
	{"Pages", 1, mostPages, func(c *api.Config) *int { return &c.Pages }},
	{"PageSize", 8, mostPageSize, func(c *api.Config) *int { return &c.PageSize }},
	{"Pins", 1, 1024, func(c *api.Config) *int { return &c.Pins }},
	{"Commits", 1, 1048576, func(c *api.Config) *int { return &c.Commits }},
	{"Chunk", 1, 64, func(c *api.Config) *int { return &c.Chunk }},
}

func TestNew(t *testing.T) { // P19.1, P19.2
	valid := []api.Config{small(), large(), {Sessions: 1, Names: 1, Pages: 1, PageSize: 8, Pins: 1, Commits: 1, Chunk: 1}}
	for _, x := range capacities {
		for _, n := range []int{x.least, x.least + 1, (x.least + x.most) / 2, x.most - 1, x.most} {
			c := small()
			*x.of(&c) = n
			valid = append(valid, c)
		}
	}
	for _, c := range valid {
		if e := ValidateConfig(c); e != api.OK {
			t.Errorf("ValidateConfig(%v) = %d", c, e)
		}
		check(t, open(t, c), api.Dump{})
	}
}

func TestNewWithInvalidCapacities(t *testing.T) { // P19.1
	invalid := []api.Config{{}}
	for _, x := range capacities {
		for _, n := range []int{
			math.MinInt, math.MinInt + 1, -1 << 32, 8 - 1<<32, -x.most, -x.least, -1, 0, x.least - 1,
			x.most + 1, x.most + 2, 2*x.most + 1, 1 << 32, 1<<32 + 8, math.MaxInt - 1, math.MaxInt,
		} {
			for _, c := range []api.Config{small(), large()} {
				*x.of(&c) = n
				invalid = append(invalid, c)
			}
		}
	}
	for _, c := range invalid {
		if e := ValidateConfig(c); e != api.ErrRange {
			t.Errorf("ValidateConfig(%v) = %d; want ErrRange", c, e)
		}
		if s, e := New(c); s != nil || e != api.ErrRange {
			t.Errorf("New(%v) = %v, %d; want nil, ErrRange", c, s, e)
		}
	}
}

func TestEmptyStore(t *testing.T) { // P19.2 to P19.8
	s := open(t, small())
	fails(t, s, "Put", api.ErrUnknown, func() (int, api.Errno) { return s.Put("a", nil) })
	fails(t, s, "Drop", api.ErrUnknown, func() (int, api.Errno) { return s.Drop("a") })
	fails(t, s, "Rename", api.ErrUnknown, func() (int, api.Errno) { return s.Rename("a", "b") })
	fails(t, s, "Unpin", api.ErrUnknown, func() (int, api.Errno) { return alone(s.Unpin(0)) })
	fails(t, s, "Remove", api.ErrUnknown, func() (int, api.Errno) { return alone(s.Remove(1, 1)) })
	if n := s.Prune(); n != 0 {
		t.Errorf("Prune() = %d; want 0", n)
	}
	check(t, s, api.Dump{})
}

func TestStoresAreSeparate(t *testing.T) { // R3
	a, b := open(t, small()), open(t, small())
	put(t, a, "a", "text of a")
	succeeds(t, a.Pin(1))
	check(t, b, api.Dump{})
	put(t, b, "b", "")
	check(t, b, api.Dump{Commit: 1, Objects: []api.Object{object(1, version(1, 0, 0))}, Bindings: []api.Binding{bound("b", 1, 1, 0)}})
	check(t, a, api.Dump{
		Commit: 1, Objects: []api.Object{object(1, version(1, 0, 9, 1, 2))}, Bindings: []api.Binding{bound("a", 1, 1, 0)},
		Pins: []api.Pin{pin(1, 1)}, Pages: []api.Page{page(1, 1, "text of "), page(2, 1, "a")},
	})
}

func TestExampleOfTheChapter(t *testing.T) { // P19.2, P19.4, P19.5
	s := open(t, small())
	put(t, s, "a", "0123456789", "0123456789")
	if s.Commit() != 2 || s.Live() != 2 {
		t.Errorf("Commit and Live are %d and %d; want 2 and 2", s.Commit(), s.Live())
	}
}

func TestCreate(t *testing.T) { // P19.2, P19.4
	s := open(t, small())
	put(t, s, "b", "0123456789")
	put(t, s, "a", "01234567")
	commits(t, 3)(s.Create("a-very.long-name", nil))
	check(t, s, api.Dump{
		Commit:   3,
		Objects:  []api.Object{object(1, version(1, 0, 10, 1, 2)), object(2, version(2, 0, 8, 3)), object(3, version(3, 0, 0))},
		Bindings: []api.Binding{bound("a", 2, 2, 0), bound("a-very.long-name", 3, 3, 0), bound("b", 1, 1, 0)},
		Pages:    []api.Page{page(1, 1, "01234567"), page(2, 1, "89"), page(3, 1, "01234567")},
	})
}

func TestCreateOfEachSize(t *testing.T) { // P19.3, P19.4
	for _, size := range []int{8, 9, 13, mostPageSize} {
		for n := range 50 {
			c := small()
			c.PageSize = size
			s := open(t, c)
			text := strings.Repeat("The quick brown fox jumps over", 2)[:n]
			put(t, s, "a", text)
			if x := show(t, s, "a", 1); x != (shown{1, 1, text, api.OK}) || s.Live() != (n+size-1)/size {
				t.Errorf("after Create of %q in pages of %d there are %d pages, and a is %v", text, size, s.Live(), x)
			}
		}
	}
}

func TestCreateOfEqualBytesSharesNoPages(t *testing.T) { // P19.4
	s := open(t, small())
	put(t, s, "a", "0123456701234567")
	put(t, s, "b", "0123456701234567")
	check(t, s, api.Dump{
		Commit:   2,
		Objects:  []api.Object{object(1, version(1, 0, 16, 1, 2)), object(2, version(2, 0, 16, 3, 4))},
		Bindings: []api.Binding{bound("a", 1, 1, 0), bound("b", 2, 2, 0)},
		Pages:    []api.Page{page(1, 1, "01234567"), page(2, 1, "01234567"), page(3, 1, "01234567"), page(4, 1, "01234567")},
	})
}

var wrongNames = []string{
	"", "A", "aB", "1", "-", ".a", "a_b", "a b", " a", "a\n", "a\x00", "ä", "a\xff", "a-very.long-name1", strings.Repeat("a", 100),
}

// data returns bytes of a length, of which no two pages are equal.
func data(n int) []byte {
	b := make([]byte, n)
	for i := range b {
		b[i] = byte(i>>3) ^ byte(i*131>>10)
	}
	return b
}

func TestCreateOfWrongNames(t *testing.T) { // P19.4
	s := open(t, small())
	for _, name := range wrongNames {
		for _, b := range [][]byte{nil, {1}, data(mostData + 1)} {
			fails(t, s, fmt.Sprintf("Create(%q)", name), api.ErrName, func() (int, api.Errno) { return s.Create(name, b) })
		}
	}
	check(t, s, api.Dump{})
}

// failingCreates checks the errors of Create in a store in which a is bound, and
// which is full.
func failingCreates(t *testing.T, s *Store) {
	t.Helper()
	tooMuch := data(mostData + 1)
	for _, x := range []struct {
		name string
		data []byte
		e    api.Errno
	}{
		{"", nil, api.ErrName}, {"A", tooMuch, api.ErrName},
		{"a", tooMuch, api.ErrTooLarge}, {"z", tooMuch, api.ErrTooLarge}, {"z", data(1 << 20), api.ErrTooLarge},
		{"a", nil, api.ErrDuplicate}, {"a", data(mostData), api.ErrDuplicate},
		{"z", nil, api.ErrFull}, {"z", data(1), api.ErrFull}, {"z", data(mostData), api.ErrFull},
	} {
		call := fmt.Sprintf("Create(%q, %d bytes)", x.name, len(x.data))
		fails(t, s, call, x.e, func() (int, api.Errno) { return s.Create(x.name, x.data) })
	}
}

func TestCreateWithAllNames(t *testing.T) { // P19.4
	for _, names := range []int{1, 2, 3, 20} {
		c := small()
		c.Names, c.Commits = names, 100
		s := open(t, c)
		for i := range names {
			put(t, s, string(rune('a'+i)), "")
		}
		failingCreates(t, s)
		// A name that is gone makes room, although its binding is still stored; a
		// name that is renamed does not.
		commits(t, names+1)(s.Rename("a", "y"))
		fails(t, s, "Create", api.ErrFull, func() (int, api.Errno) { return s.Create("a", nil) })
		commits(t, names+2)(s.Rename("y", "a"))
		failingCreates(t, s)
		succeeds(t, s.Pin(s.Commit()))
		commits(t, names+3)(s.Drop("a"))
		put(t, s, "a", "")
		failingCreates(t, s)
	}
}

func TestCreateWithAllCommits(t *testing.T) { // P19.4
	for _, n := range []int{1, 2, 7} {
		c := small()
		c.Commits = n
		s := open(t, c)
		put(t, s, "a", slices.Repeat([]string{"text"}, n)...)
		failingCreates(t, s)
		fails(t, s, "Put", api.ErrFull, func() (int, api.Errno) { return s.Put("a", []byte("text")) })
		fails(t, s, "Put", api.ErrFull, func() (int, api.Errno) { return s.Put("a", nil) })
		fails(t, s, "Put", api.ErrUnknown, func() (int, api.Errno) { return s.Put("z", nil) })
		fails(t, s, "Put", api.ErrTooLarge, func() (int, api.Errno) { return s.Put("a", data(mostData+1)) })
		fails(t, s, "Drop", api.ErrFull, func() (int, api.Errno) { return s.Drop("a") })
		fails(t, s, "Drop", api.ErrUnknown, func() (int, api.Errno) { return s.Drop("z") })
		fails(t, s, "Rename", api.ErrFull, func() (int, api.Errno) { return s.Rename("a", "b") })
		fails(t, s, "Rename", api.ErrDuplicate, func() (int, api.Errno) { return s.Rename("a", "a") })
		fails(t, s, "Rename", api.ErrUnknown, func() (int, api.Errno) { return s.Rename("z", "b") })
		fails(t, s, "Rename", api.ErrName, func() (int, api.Errno) { return s.Rename("a", "B") })
		// What makes no commit is still possible.
		succeeds(t, s.Pin(n), s.Unpin(n))
		for from := 1; from < n; from++ {
			succeeds(t, s.Remove(1, from))
		}
		if x := show(t, s, "a", n); x != (shown{1, n, "text", api.OK}) {
			t.Errorf("after %d commits a is %v", n, x)
		}
	}
}

func TestCreateWithAllPages(t *testing.T) { // P19.4
	for free := range 4 {
		s := open(t, small())
		put(t, s, "a", string(data(8*(8-free))))
		for n := free*8 + 1; n < free*8+20; n++ {
			fails(t, s, "Create", api.ErrFull, func() (int, api.Errno) { return s.Create("b", data(n)) })
		}
		put(t, s, "b", string(data(free*8)))
		if s.Live() != 8 {
			t.Errorf("Live() = %d; want 8", s.Live())
		}
		fails(t, s, "Create", api.ErrFull, func() (int, api.Errno) { return s.Create("c", data(1)) })
		// A version of no bytes needs no page.
		put(t, s, "c", "")
		failingCreates(t, s)
		// Pages are free when their versions are removed, and not before.
		commits(t, 4)(s.Drop("a"))
		fails(t, s, "Create", api.ErrFull, func() (int, api.Errno) { return s.Create("d", data(1)) })
		succeeds(t, s.Remove(1, 1))
		fails(t, s, "Create", api.ErrFull, func() (int, api.Errno) { return s.Create("d", data(8*(8-free)+1)) })
		put(t, s, "d", string(data(8*(8-free))))
	}
}

func TestObjectsAreNumberedInOrder(t *testing.T) { // P19.4
	s := open(t, small())
	put(t, s, "a", "x", "y")
	fails(t, s, "Create", api.ErrDuplicate, func() (int, api.Errno) { return s.Create("a", nil) })
	fails(t, s, "Create", api.ErrFull, func() (int, api.Errno) { return s.Create("c", data(60)) })
	put(t, s, "b", "z")
	commits(t, 4)(s.Drop("b"))
	commits(t, 5)(s.Drop("a"))
	succeeds(t, s.Remove(1, 1), s.Remove(1, 2), s.Remove(2, 3))
	if n := s.Prune(); n != 2 {
		t.Errorf("Prune() = %d; want 2", n)
	}
	check(t, s, api.Dump{Commit: 5})
	put(t, s, "a", "new")
	check(t, s, api.Dump{
		Commit: 6, Objects: []api.Object{object(3, version(6, 0, 3, 1))}, Bindings: []api.Binding{bound("a", 3, 6, 0)}, Pages: []api.Page{page(1, 1, "new")},
	})
}

func TestPutSharesPages(t *testing.T) { // P19.5
	for _, x := range []struct {
		old, now string
		pages    []int // of the new version; those of the old one are 1, 2, ..
	}{
		{"", "", nil}, {"", "a", []int{1}}, {"a", "", nil}, {"a", "a", []int{1}}, {"a", "b", []int{2}}, {"a", "aa", []int{2}}, {"aa", "a", []int{2}},
		{"01234567", "01234567", []int{1}}, {"01234567", "0123456", []int{2}}, {"0123456", "01234567", []int{2}},
		{"01234567", "012345678", []int{1, 2}}, {"012345678", "01234567", []int{1}},
		{"0123456789", "01234567xy", []int{1, 3}}, {"0123456789", "x123456789", []int{3, 2}}, {"0123456789", "xxxxxxxxxx", []int{3, 4}},
		{"0123456789", "0123456789abcdef", []int{1, 3}}, {"0123456789abcdef", "0123456789abcdefg", []int{1, 2, 3}},
		{"0123456789abcdef", "0123456789abcde", []int{1, 3}}, {"0123456789abcdef", "01234567", []int{1}},
		// Only a page in the same place is shared.
		{"aaaaaaaabbbbbbbb", "bbbbbbbbaaaaaaaa", []int{3, 4}}, {"aaaaaaaabbbbbbbb", "bbbbbbbb", []int{3}}, {"bbbbbbbb", "aaaaaaaabbbbbbbb", []int{2, 3}},
		{"aaaaaaaaaaaaaaaa", "aaaaaaaa", []int{1}}, {"aaaaaaaa", "aaaaaaaaaaaaaaaaaaaaaaaa", []int{1, 2, 3}}, {"aaaaaaaaaaaaaaaa", "aaaaaaaaaaaaaaaa", []int{1, 2}},
		{"aaaaaaaabbbbbbbbcccccccc", "aaaaaaaaxbbbbbbbcccccccc", []int{1, 4, 3}}, {"aaaaaaaabbbbbbbbcccccccc", "xaaaaaaabbbbbbbbxccccccc", []int{4, 2, 5}},
		{"aaaaaaaabbbbbbbbcccccccc", "aaaaaaaabbbbbbbbcccccccx", []int{1, 2, 4}}, {"\x00", "\x00\x00", []int{2}}, {"\x00", "", nil},
	} {
		s := open(t, small())
		put(t, s, "a", x.old, x.now)
		before := (len(x.old) + 7) / 8
		pages := map[int]api.Page{}
		want := api.Dump{Commit: 2, Bindings: []api.Binding{bound("a", 1, 1, 0)}}
		old := version(1, 2, len(x.old))
		for i := range before {
			old.Pages = append(old.Pages, i+1)
			pages[i+1] = page(i+1, 1, x.old[8*i:min(8*i+8, len(x.old))])
		}
		for i, n := range x.pages {
			if n <= before {
				pages[n] = page(n, 2, string(pages[n].Data))
			} else {
				pages[n] = page(n, 1, x.now[8*i:min(8*i+8, len(x.now))])
			}
		}
		want.Objects = []api.Object{object(1, old, version(2, 0, len(x.now), x.pages...))}
		for n := 1; n <= len(pages); n++ {
			want.Pages = append(want.Pages, pages[n])
		}
		check(t, s, want)
		// Both versions show what they are.
		succeeds(t, s.Pin(2))
		commits(t, 3)(s.Put("a", []byte("later")))
		if y := show(t, s, "a", 2); y.text != x.now {
			t.Errorf("Put of %q after %q gives %q", x.now, x.old, y.text)
		}
		// Without the old version the new one has all its pages.
		succeeds(t, s.Remove(1, 1))
		if y := show(t, s, "a", 2); y.text != x.now {
			t.Errorf("Put of %q after %q, which is removed, gives %q", x.now, x.old, y.text)
		}
	}
}

func TestPutSharesWithTheVersionBeforeOnly(t *testing.T) { // P19.5
	s := open(t, small())
	put(t, s, "b", "aaaaaaaa")
	put(t, s, "a", "aaaaaaaa", "bbbbbbbb", "aaaaaaaa")
	check(t, s, api.Dump{
		Commit:   4,
		Objects:  []api.Object{object(1, version(1, 0, 8, 1)), object(2, version(2, 3, 8, 2), version(3, 4, 8, 3), version(4, 0, 8, 4))},
		Bindings: []api.Binding{bound("a", 2, 2, 0), bound("b", 1, 1, 0)},
		Pages:    []api.Page{page(1, 1, "aaaaaaaa"), page(2, 1, "aaaaaaaa"), page(3, 1, "bbbbbbbb"), page(4, 1, "aaaaaaaa")},
	})
}

func TestPutAllocatesInOrder(t *testing.T) { // P19.5
	s := open(t, small())
	put(t, s, "b", "11111111")
	put(t, s, "a", "22222222333")
	put(t, s, "c", "44444444")
	commits(t, 4)(s.Drop("b"))
	commits(t, 5)(s.Drop("c"))
	succeeds(t, s.Remove(1, 1), s.Remove(3, 3))
	// Pages 1 and 4 are free; page 2 is shared.
	commits(t, 6)(s.Put("a", []byte("22222222555555556666666677")))
	check(t, s, api.Dump{
		Commit:   6,
		Objects:  []api.Object{object(2, version(2, 6, 11, 2, 3), version(6, 0, 26, 2, 1, 4, 5))},
		Bindings: []api.Binding{bound("a", 2, 2, 0), bound("b", 1, 1, 4), bound("c", 3, 3, 5)},
		Pages:    []api.Page{page(1, 1, "55555555"), page(2, 2, "22222222"), page(3, 1, "333"), page(4, 1, "66666666"), page(5, 1, "77")},
	})
}

func TestPutAfterRename(t *testing.T) { // P19.5, P19.6
	s := open(t, small())
	put(t, s, "a", "0123456789")
	commits(t, 2)(s.Rename("a", "b"))
	fails(t, s, "Put", api.ErrUnknown, func() (int, api.Errno) { return s.Put("a", nil) })
	commits(t, 3)(s.Put("b", []byte("01234567")))
	check(t, s, api.Dump{
		Commit:   3,
		Objects:  []api.Object{object(1, version(1, 3, 10, 1, 2), version(3, 0, 8, 1))},
		Bindings: []api.Binding{bound("a", 1, 1, 2), bound("b", 1, 2, 0)},
		Pages:    []api.Page{page(1, 2, "01234567"), page(2, 1, "89")},
	})
}

func TestPutErrors(t *testing.T) { // P19.5
	s := open(t, small())
	put(t, s, "a", "0123456789")
	put(t, s, "b", "0123456789")
	commits(t, 3)(s.Drop("b"))
	for _, x := range []struct {
		name string
		data []byte
		e    api.Errno
	}{
		{"a", data(mostData + 1), api.ErrTooLarge}, {"c", data(mostData + 1), api.ErrTooLarge}, {"", data(mostData + 1), api.ErrTooLarge}, {"a", data(1 << 20), api.ErrTooLarge},
		{"b", nil, api.ErrUnknown}, {"c", nil, api.ErrUnknown}, {"", nil, api.ErrUnknown}, {"A", nil, api.ErrUnknown}, {"a ", nil, api.ErrUnknown}, {"aa", nil, api.ErrUnknown},
		{"b", data(mostData), api.ErrUnknown}, {"c", data(60), api.ErrUnknown},
		{"a", data(mostData), api.ErrFull}, {"a", data(33), api.ErrFull}, {"a", []byte("01234567890123456789012345678901234567890123456789"), api.ErrFull},
	} {
		fails(t, s, fmt.Sprintf("Put(%q, %d bytes)", x.name, len(x.data)), x.e, func() (int, api.Errno) { return s.Put(x.name, x.data) })
	}
	// Nothing of the calls is left that a later one could show.
	commits(t, 4)(s.Put("a", data(32)))
	if s.Live() != 8 {
		t.Errorf("Live() = %d; want 8", s.Live())
	}
}

func TestPutNeedsRoomForNewPagesOnly(t *testing.T) { // P19.5
	s := open(t, small())
	text := string(data(64))
	put(t, s, "a", text, text, text[:40], text[:32]) // page 5 is whole or absent
	if s.Live() != 8 {
		t.Fatalf("Live() = %d; want 8", s.Live())
	}
	fails(t, s, "Put", api.ErrFull, func() (int, api.Errno) { return s.Put("a", []byte(text[:40])) })
	fails(t, s, "Put", api.ErrFull, func() (int, api.Errno) { return s.Put("a", []byte(text[:31])) })
	fails(t, s, "Put", api.ErrFull, func() (int, api.Errno) { return s.Put("a", []byte("x")) })
	commits(t, 5)(s.Put("a", []byte(text[:32])))
	succeeds(t, s.Remove(1, 1), s.Remove(1, 2))
	if s.Live() != 5 {
		t.Fatalf("Live() = %d; want 5", s.Live())
	}
	fails(t, s, "Put", api.ErrFull, func() (int, api.Errno) { return s.Put("a", []byte(text[:32]+"and another 24 bytes or so")) })
	fails(t, s, "Put", api.ErrFull, func() (int, api.Errno) { return s.Put("a", []byte("x"+text[1:9]+"x"+text[10:17]+"x"+text[18:26])) })
	commits(t, 6)(s.Put("a", []byte("x"+text[1:9]+"x"+text[10:24])))
	commits(t, 7)(s.Put("a", []byte("x"+text[1:9]+"x"+text[10:25])))
	fails(t, s, "Put", api.ErrFull, func() (int, api.Errno) { return s.Put("a", []byte("y"+text[1:9]+"x"+text[10:25])) })
	if s.Live() != 8 {
		t.Errorf("Live() = %d; want 8", s.Live())
	}
}

func TestDrop(t *testing.T) { // P19.6
	s := open(t, small())
	put(t, s, "a", "a1", "a2")
	put(t, s, "b", "b1")
	succeeds(t, s.Pin(3))
	commits(t, 4)(s.Drop("a"))
	want := api.Dump{
		Commit:   4,
		Objects:  []api.Object{object(1, version(1, 2, 2, 1), version(2, 4, 2, 2)), object(2, version(3, 0, 2, 3))},
		Bindings: []api.Binding{bound("a", 1, 1, 4), bound("b", 2, 3, 0)},
		Pins:     []api.Pin{pin(3, 1)},
		Pages:    []api.Page{page(1, 1, "a1"), page(2, 1, "a2"), page(3, 1, "b1")},
	}
	check(t, s, want)
	for _, name := range append(wrongNames, "a", "c", "bb", "b ") {
		fails(t, s, fmt.Sprintf("Drop(%q)", name), api.ErrUnknown, func() (int, api.Errno) { return s.Drop(name) })
	}
	// The name can be used for another object.
	put(t, s, "a", "new")
	want.Commit = 5
	want.Objects = append(want.Objects, object(3, version(5, 0, 3, 4)))
	want.Bindings = []api.Binding{bound("a", 1, 1, 4), bound("a", 3, 5, 0), bound("b", 2, 3, 0)}
	want.Pages = append(want.Pages, page(4, 1, "new"))
	check(t, s, want)
	commits(t, 6)(s.Drop("b"))
	commits(t, 7)(s.Drop("a"))
	want.Commit = 7
	want.Objects[1].Versions[0].To, want.Objects[2].Versions[0].To = 6, 7
	want.Bindings[2].To, want.Bindings[1].To = 6, 7
	check(t, s, want)
}

func TestRename(t *testing.T) { // P19.6
	s := open(t, small())
	put(t, s, "b", "b1", "b2")
	put(t, s, "c", "c1")
	succeeds(t, s.Pin(3))
	commits(t, 4)(s.Rename("b", "a"))
	succeeds(t, s.Pin(4))
	commits(t, 5)(s.Rename("c", "b"))
	succeeds(t, s.Pin(5))
	commits(t, 6)(s.Rename("a", "c"))
	want := api.Dump{
		Commit:   6,
		Objects:  []api.Object{object(1, version(1, 2, 2, 1), version(2, 0, 2, 2)), object(2, version(3, 0, 2, 3))},
		Bindings: []api.Binding{bound("a", 1, 4, 6), bound("b", 1, 1, 4), bound("b", 2, 5, 0), bound("c", 2, 3, 5), bound("c", 1, 6, 0)},
		Pins:     []api.Pin{pin(3, 1), pin(4, 1), pin(5, 1)},
		Pages:    []api.Page{page(1, 1, "b1"), page(2, 1, "b2"), page(3, 1, "c1")},
	}
	check(t, s, want)
	for commit, x := range map[int]string{3: "b=b2 c=c1", 4: "a=b2 c=c1", 5: "a=b2 b=c1", 6: "b=c1 c=b2"} {
		var l []string
		names, _ := s.Names(commit)
		for _, name := range names {
			l = append(l, name+"="+show(t, s, name, commit).text)
		}
		if text := strings.Join(l, " "); text != x {
			t.Errorf("after commit %d there are %s; want %s", commit, text, x)
		}
	}
}

func TestRenameErrors(t *testing.T) { // P19.6
	s := open(t, small())
	put(t, s, "a", "a1")
	put(t, s, "b", "b1")
	put(t, s, "c", "c1")
	commits(t, 4)(s.Drop("c"))
	rename := func(from, to string, want api.Errno) {
		t.Helper()
		fails(t, s, fmt.Sprintf("Rename(%q, %q)", from, to), want, func() (int, api.Errno) { return s.Rename(from, to) })
	}
	for _, name := range wrongNames {
		rename("a", name, api.ErrName)
		rename("c", name, api.ErrName)
		rename(name, name, api.ErrName)
		rename(name, "d", api.ErrUnknown)
		rename(name, "a", api.ErrUnknown)
	}
	for _, to := range []string{"a", "b", "c", "d"} {
		rename("c", to, api.ErrUnknown)
		rename("d", to, api.ErrUnknown)
	}
	rename("a", "a", api.ErrDuplicate)
	rename("a", "b", api.ErrDuplicate)
	rename("b", "a", api.ErrDuplicate)
	commits(t, 5)(s.Rename("a", "c"))
	rename("a", "c", api.ErrUnknown)
	rename("b", "c", api.ErrDuplicate)
	commits(t, 6)(s.Rename("c", "a"))
	// With all names in use a name can still be changed.
	put(t, s, "c", "")
	commits(t, 8)(s.Rename("c", "a-very.long-name"))
}

func TestErrorsOfReading(t *testing.T) { // P19.3
	s := open(t, small())
	put(t, s, "a", "a1", "a2", "a3", "a4")
	succeeds(t, s.Pin(4))
	commits(t, 5)(s.Drop("a"))
	put(t, s, "b", "b1")
	for _, x := range []struct {
		commit int
		e      api.Errno // for any name
	}{
		{math.MinInt, api.ErrRange}, {-1 << 32, api.ErrRange}, {4 - 1<<32, api.ErrRange}, {-2, api.ErrRange}, {-1, api.ErrRange},
		{0, api.ErrState}, {1, api.ErrState}, {2, api.ErrState}, {3, api.ErrState}, {4, api.OK}, {5, api.ErrState}, {6, api.OK},
		{7, api.ErrRange}, {8, api.ErrRange}, {20, api.ErrRange}, {1<<32 + 4, api.ErrRange}, {math.MaxInt - 1, api.ErrRange}, {math.MaxInt, api.ErrRange},
	} {
		for _, name := range []string{"", "a", "b", "c", "A"} {
			want := shown{e: cmp.Or(x.e, api.ErrUnknown)}
			if name == "a" && x.commit == 4 {
				want = shown{1, 4, "a4", api.OK}
			}
			if name == "b" && x.commit == 6 {
				want = shown{2, 6, "b1", api.OK}
			}
			if y := show(t, s, name, x.commit); y != want {
				t.Errorf("after commit %d %q is %v; want %v", x.commit, name, y, want)
			}
		}
		l, e := s.Names(x.commit)
		if e != x.e || e != api.OK && len(l) != 0 {
			t.Errorf("Names(%d) = %q, %d; want error %d", x.commit, l, e, x.e)
		}
	}
}

func TestNamesAreAscending(t *testing.T) { // P19.3
	c := large()
	s := open(t, c)
	given := []string{"b", "a.", "z", "a", "a-", "ab", "aa", "a0", "b-0", "m", "a9", "y"}
	for i, name := range given {
		put(t, s, name, "")
		l, e := s.Names(i + 1)
		want := slices.Clone(given[:i+1])
		slices.Sort(want)
		if !slices.Equal(l, want) || e != api.OK {
			t.Errorf("Names(%d) = %q, %d; want %q", i+1, l, e, want)
		}
	}
}

func TestPin(t *testing.T) { // P19.2, P19.7
	s := open(t, small())
	put(t, s, "a", "1", "2")
	succeeds(t, s.Pin(2), s.Pin(2))
	commits(t, 3)(s.Put("a", nil))
	want := api.Dump{
		Commit:   3,
		Objects:  []api.Object{object(1, version(1, 2, 1, 1), version(2, 3, 1, 2), version(3, 0, 0))},
		Bindings: []api.Binding{bound("a", 1, 1, 0)},
		Pins:     []api.Pin{pin(2, 2)},
		Pages:    []api.Page{page(1, 1, "1"), page(2, 1, "2")},
	}
	check(t, s, want)
	for _, commit := range []int{0, 1} {
		fails(t, s, "Pin", api.ErrState, func() (int, api.Errno) { return alone(s.Pin(commit)) })
	}
	// A pinned commit can be pinned again when it is not the last one.
	succeeds(t, s.Pin(2), s.Pin(3))
	want.Pins = []api.Pin{pin(2, 3), pin(3, 1)}
	check(t, s, want)
	for _, x := range []struct {
		commit int
		e      api.Errno
	}{
		{math.MinInt, api.ErrRange}, {-1, api.ErrRange}, {4, api.ErrRange}, {math.MaxInt, api.ErrRange},
		{0, api.ErrState}, {1, api.ErrState}, {2, api.ErrFull}, {3, api.ErrFull},
	} {
		fails(t, s, "Pin", x.e, func() (int, api.Errno) { return alone(s.Pin(x.commit)) })
	}
	for _, commit := range []int{math.MinInt, -1, 0, 1, 4, math.MaxInt} {
		fails(t, s, "Unpin", api.ErrUnknown, func() (int, api.Errno) { return alone(s.Unpin(commit)) })
	}
	succeeds(t, s.Unpin(2), s.Unpin(3))
	want.Pins = []api.Pin{pin(2, 2)}
	check(t, s, want)
	succeeds(t, s.Unpin(2), s.Unpin(2))
	want.Pins = nil
	check(t, s, want)
	fails(t, s, "Pin", api.ErrState, func() (int, api.Errno) { return alone(s.Pin(2)) })
	fails(t, s, "Unpin", api.ErrUnknown, func() (int, api.Errno) { return alone(s.Unpin(2)) })
}

func TestPinOfTheEmptyStore(t *testing.T) { // P19.3, P19.7
	s := open(t, small())
	fails(t, s, "Pin", api.ErrRange, func() (int, api.Errno) { return alone(s.Pin(1)) })
	fails(t, s, "Pin", api.ErrRange, func() (int, api.Errno) { return alone(s.Pin(-1)) })
	succeeds(t, s.Pin(0))
	put(t, s, "a", "1", "2")
	succeeds(t, s.Pin(0), s.Remove(1, 1))
	check(t, s, api.Dump{
		Commit: 2, Objects: []api.Object{object(1, version(2, 0, 1, 2))}, Bindings: []api.Binding{bound("a", 1, 1, 0)},
		Pins: []api.Pin{pin(0, 2)}, Pages: []api.Page{page(2, 1, "2")},
	})
	if l, e := s.Names(0); len(l) != 0 || e != api.OK {
		t.Errorf("Names(0) = %q, %d; want no names", l, e)
	}
	succeeds(t, s.Unpin(0), s.Unpin(0))
	if l, e := s.Names(0); len(l) != 0 || e != api.ErrState {
		t.Errorf("Names(0) without a pin = %q, %d; want ErrState", l, e)
	}
}

func TestAllPins(t *testing.T) { // P19.2, P19.7
	for _, n := range []int{1, 2, 5, 1024} {
		c := large()
		c.Pins = n
		s := open(t, c)
		for i := range n {
			if s.Pins() != i {
				t.Fatalf("Pins() = %d; want %d", s.Pins(), i)
			}
			succeeds(t, s.Pin(s.Commit()))
			if i%3 == 0 {
				put(t, s, fmt.Sprintf("n%d", i%64), "")
				commits(t, s.Commit()+1)(s.Drop(fmt.Sprintf("n%d", i%64)))
			}
		}
		fails(t, s, "Pin", api.ErrFull, func() (int, api.Errno) { return alone(s.Pin(s.Commit())) })
		fails(t, s, "Pin", api.ErrFull, func() (int, api.Errno) { return alone(s.Pin(0)) })
		fails(t, s, "Pin", api.ErrState, func() (int, api.Errno) { return alone(s.Pin(1)) })
		succeeds(t, s.Unpin(0), s.Pin(s.Commit()))
		fails(t, s, "Pin", api.ErrFull, func() (int, api.Errno) { return alone(s.Pin(s.Commit())) })
	}
}

func TestAllPinsOfACommit(t *testing.T) { // P19.7
	s := open(t, large())
	for range 1024 {
		succeeds(t, s.Pin(0))
	}
	fails(t, s, "Pin", api.ErrFull, func() (int, api.Errno) { return alone(s.Pin(0)) })
	check(t, s, api.Dump{Pins: []api.Pin{pin(0, 1024)}})
}

func TestRemove(t *testing.T) { // P19.8
	s := open(t, small())
	put(t, s, "a", "11111111abc", "11111111def", "22222222def")
	put(t, s, "b", "b")
	commits(t, 5)(s.Drop("b"))
	want := api.Dump{
		Commit:   5,
		Objects:  []api.Object{object(1, version(1, 2, 11, 1, 2), version(2, 3, 11, 1, 3), version(3, 0, 11, 4, 3)), object(2, version(4, 5, 1, 5))},
		Bindings: []api.Binding{bound("a", 1, 1, 0), bound("b", 2, 4, 5)},
		Pages:    []api.Page{page(1, 2, "11111111"), page(2, 1, "abc"), page(3, 2, "def"), page(4, 1, "22222222"), page(5, 1, "b")},
	}
	check(t, s, want)
	for _, x := range [][2]int{
		{0, 0}, {0, 1}, {-1, 1}, {math.MinInt, 1}, {3, 1}, {3, 4}, {math.MaxInt, 1}, {1 + 1<<32, 1},
		{1, 0}, {1, -1}, {1, math.MinInt}, {1, 4}, {1, 5}, {1, 6}, {1, math.MaxInt}, {1, 1 + 1<<32}, {2, 0}, {2, 1}, {2, 3}, {2, 5},
	} {
		fails(t, s, fmt.Sprintf("Remove%v", x), api.ErrUnknown, func() (int, api.Errno) { return alone(s.Remove(x[0], x[1])) })
	}
	fails(t, s, "Remove of the current version", api.ErrState, func() (int, api.Errno) { return alone(s.Remove(1, 3)) })

	succeeds(t, s.Remove(1, 2))
	want.Objects[0] = object(1, version(1, 2, 11, 1, 2), version(3, 0, 11, 4, 3))
	want.Pages[0].Refs, want.Pages[2].Refs = 1, 1
	check(t, s, want)
	fails(t, s, "Remove of a removed version", api.ErrUnknown, func() (int, api.Errno) { return alone(s.Remove(1, 2)) })

	succeeds(t, s.Remove(1, 1))
	want.Objects[0] = object(1, version(3, 0, 11, 4, 3))
	want.Pages = want.Pages[2:]
	check(t, s, want)

	// The binding of an object that is gone stays until Prune.
	succeeds(t, s.Remove(2, 4))
	want.Objects, want.Pages = want.Objects[:1], want.Pages[:2]
	check(t, s, want)
	fails(t, s, "Remove of a removed object", api.ErrUnknown, func() (int, api.Errno) { return alone(s.Remove(2, 4)) })
}

func TestRemoveOfPinnedVersions(t *testing.T) { // P19.8
	for pinned := 1; pinned <= 8; pinned++ {
		s := open(t, small())
		commit := committer(t, s, pinned)
		commit(s.Create("b", nil))
		commit(s.Create("a", []byte("1")))
		commit(s.Put("b", nil))
		commit(s.Put("b", nil))
		commit(s.Put("a", []byte("2")))
		commit(s.Put("b", nil))
		commit(s.Drop("a"))
		commit(s.Put("b", nil))
		for _, v := range []struct{ from, to int }{{2, 5}, {5, 7}} {
			if v.from <= pinned && pinned < v.to {
				fails(t, s, "Remove", api.ErrState, func() (int, api.Errno) { return alone(s.Remove(2, v.from)) })
				succeeds(t, s.Pin(pinned), s.Unpin(pinned))
				fails(t, s, "Remove", api.ErrState, func() (int, api.Errno) { return alone(s.Remove(2, v.from)) })
				succeeds(t, s.Unpin(pinned))
			}
			succeeds(t, s.Remove(2, v.from))
		}
		if s.Live() != 0 || len(s.Dump().Objects) != 1 {
			t.Errorf("with a pin of %d Live() = %d, and the objects are %v", pinned, s.Live(), s.Dump().Objects)
		}
	}
}

func TestPrune(t *testing.T) { // P19.8
	for pinned := 0; pinned <= 7; pinned++ {
		s := open(t, small())
		commit := committer(t, s, pinned)
		commit(s.Create("a", nil))
		commit(s.Create("b", nil))
		commit(s.Rename("a", "c"))
		commit(s.Drop("b"))
		commit(s.Create("b", nil))
		commit(s.Rename("c", "a"))
		commit(s.Drop("b"))
		var want []api.Binding
		for _, b := range []api.Binding{bound("a", 1, 1, 3), bound("a", 1, 6, 0), bound("b", 2, 2, 4), bound("b", 3, 5, 7), bound("c", 1, 3, 6)} {
			if b.To == 0 || b.From <= pinned && pinned < b.To {
				want = append(want, b)
			}
		}
		for _, n := range []int{5 - len(want), 0} {
			if pruned := s.Prune(); pruned != n {
				t.Errorf("Prune() with a pin of %d = %d; want %d", pinned, pruned, n)
			}
		}
		d := s.Dump()
		if !slices.Equal(d.Bindings, want) || len(d.Objects) != 3 || d.Commit != 7 {
			t.Errorf("after Prune with a pin of %d there are %v and %v; want %v", pinned, d.Objects, d.Bindings, want)
		}
		succeeds(t, s.Unpin(pinned))
		if pruned := s.Prune(); pruned != len(want)-1 || !slices.Equal(s.Dump().Bindings, []api.Binding{bound("a", 1, 6, 0)}) {
			t.Errorf("after Unpin(%d) Prune() = %d, and there are %v", pinned, pruned, s.Dump().Bindings)
		}
	}
}

func TestPinnedCommitsStay(t *testing.T) { // P19.10
	s := open(t, large())
	put(t, s, "a", "aaaaaaaa-1", "aaaaaaaa-2")
	put(t, s, "b", "b")
	succeeds(t, s.Pin(3))
	commits(t, 4)(s.Rename("a", "c"))
	commits(t, 5)(s.Rename("b", "a"))
	commits(t, 6)(s.Put("c", []byte("later")))
	commits(t, 7)(s.Drop("c"))
	commits(t, 8)(s.Create("c", []byte("other")))
	commits(t, 9)(s.Drop("a"))
	succeeds(t, s.Pin(9), s.Pin(3), s.Unpin(3))
	for _, x := range [][2]int{{1, 1}, {1, 2}, {1, 6}, {2, 3}, {3, 8}} {
		s.Remove(x[0], x[1])
	}
	if n := s.Prune(); n != 2 {
		t.Errorf("Prune() = %d; want 2", n)
	}
	check(t, s, api.Dump{
		Commit:   9,
		Objects:  []api.Object{object(1, version(2, 6, 10, 2)), object(2, version(3, 9, 1, 3)), object(3, version(8, 0, 5, 5))},
		Bindings: []api.Binding{bound("a", 1, 1, 4), bound("b", 2, 3, 5), bound("c", 3, 8, 0)},
		Pins:     []api.Pin{pin(3, 1), pin(9, 1)},
		Pages:    []api.Page{page(2, 1, "aaaaaaaa-2"), page(3, 1, "b"), page(5, 1, "other")},
	})
}

func TestDumpIsInOrder(t *testing.T) { // P19.9
	s := open(t, large())
	want := api.Dump{}
	for i := range 64 {
		name := fmt.Sprintf("n%02d", i*37%64)
		put(t, s, name, "x", "y")
		want.Objects = append(want.Objects, object(i+1, version(2*i+1, 2*i+2, 1, 2*i+1), version(2*i+2, 0, 1, 2*i+2)))
		want.Bindings = append(want.Bindings, bound(name, i+1, 2*i+1, 0))
		want.Pages = append(want.Pages, page(2*i+1, 1, "x"), page(2*i+2, 1, "y"))
	}
	want.Commit = 128
	slices.SortFunc(want.Bindings, func(a, b api.Binding) int { return strings.Compare(a.Name, b.Name) })
	for range 20 {
		check(t, s, want)
	}
	if e := directory.Validate(want.Bindings); e != api.OK {
		t.Errorf("the bindings have error %d", e)
	}
}

func TestLargestVersions(t *testing.T) { // P19.4, P19.5
	for _, size := range []int{8, 9, 1000, mostPageSize} {
		c := large()
		c.PageSize = size
		s := open(t, c)
		text := string(data(mostData))
		n := (mostData + size - 1) / size
		put(t, s, "a", text, text)
		if s.Live() != n {
			t.Errorf("Live() = %d; want %d", s.Live(), n)
		}
		changed := []byte(text)
		changed[0]++
		changed[mostData-1]++
		commits(t, 3)(s.Put("a", changed))
		if x := show(t, s, "a", 3); x.text != string(changed) || s.Live() != n+2 {
			t.Errorf("after a change of two bytes there are %d pages; want %d", s.Live(), n+2)
		}
		fails(t, s, "Put", api.ErrTooLarge, func() (int, api.Errno) { return s.Put("a", append(changed, 0)) })
		if (mostPages-n-2)*size < mostData {
			fails(t, s, "Create", api.ErrFull, func() (int, api.Errno) { return s.Create("b", changed) })
		} else {
			commits(t, 4)(s.Create("b", changed))
		}
		succeeds(t, s.Remove(1, 1), s.Remove(1, 2))
		if x := show(t, s, "a", s.Commit()); x.text != string(changed) {
			t.Errorf("after Remove the version before is different")
		}
	}
}

func TestManyVersions(t *testing.T) { // P19.5, P19.8
	c := small()
	c.Commits = 1 << 20
	s := open(t, c)
	const n = 20000
	put(t, s, "a", slices.Repeat([]string{"the same text"}, n)...)
	if s.Commit() != n || s.Live() != 2 || s.Dump().Pages[1].Refs != n {
		t.Fatalf("after %d versions Commit and Live are %d and %d", n, s.Commit(), s.Live())
	}
	l := s.Dump().Objects[0].Versions
	if e := chain.Validate(l); e != api.OK || len(l) != n || l[0].To != 2 || l[n-1].To != 0 {
		t.Fatalf("%d versions are stored, with error %d; want %d", len(l), e, n)
	}
	succeeds(t, s.Pin(n))
	commits(t, n+1)(s.Put("a", nil))
	for from := 1; from <= n+1; from++ {
		want := api.OK
		if from >= n {
			want = api.ErrState
		}
		if e := s.Remove(1, from); e != want {
			t.Fatalf("Remove(1, %d) = %d; want %d", from, e, want)
		}
	}
	d := s.Dump()
	if len(d.Objects[0].Versions) != 2 || s.Live() != 2 || d.Pages[0].Refs != 1 {
		t.Errorf("after Remove of all versions there are %v", d)
	}
}

// byHand is a store as lists of everything that is stored, and as the states
// after all commits.
type byHand struct {
	c       api.Config
	d       api.Dump
	created int
	states  []map[string]shown
}

func (h *byHand) now() map[string]shown { return h.states[h.d.Commit] }

// visible returns what a name shows after a commit.
func (h *byHand) visible(name string, commit int) shown {
	if e := errorOf(h.d, commit); e != api.OK {
		return shown{e: e}
	}
	x, ok := h.states[commit][name]
	if !ok {
		x.e = api.ErrUnknown
	}
	return x
}

// commit makes a commit of a change of the present state.
func (h *byHand) commit(change func(map[string]shown)) (int, api.Errno) {
	next := maps.Clone(h.now())
	h.d.Commit++
	change(next)
	h.states = append(h.states, next)
	return h.d.Commit, api.OK
}

// object returns the object of a number, which is made if it is new.
func (h *byHand) object(id int) *api.Object {
	for i := range h.d.Objects {
		if h.d.Objects[i].ID == id {
			return &h.d.Objects[i]
		}
	}
	h.d.Objects = append(h.d.Objects, api.Object{ID: id})
	return &h.d.Objects[len(h.d.Objects)-1]
}

// page returns the page of a number.
func (h *byHand) page(n int) *api.Page {
	for i := range h.d.Pages {
		if h.d.Pages[i].Number == n {
			return &h.d.Pages[i]
		}
	}
	return nil
}

// cut returns the pages of a text.
func (h *byHand) cut(text string) []string {
	var l []string
	for text != "" {
		n := min(len(text), h.c.PageSize)
		l = append(l, text[:n])
		text = text[n:]
	}
	return l
}

// missing returns how many pages a text needs that an older one does not have in
// the same places.
func (h *byHand) missing(old, text string) int {
	n := 0
	pages := h.cut(old)
	for i, p := range h.cut(text) {
		if i >= len(pages) || pages[i] != p {
			n++
		}
	}
	return n
}

// add adds a version to an object.
func (h *byHand) add(id int, text string) {
	o := h.object(id)
	v := api.Version{From: h.d.Commit, Size: len(text)}
	var old []int
	if n := len(o.Versions); n > 0 {
		o.Versions[n-1].To = h.d.Commit
		old = o.Versions[n-1].Pages
	}
	for i, p := range h.cut(text) {
		if i < len(old) && string(h.page(old[i]).Data) == p {
			h.page(old[i]).Refs++
			v.Pages = append(v.Pages, old[i])
			continue
		}
		n := 1
		for h.page(n) != nil {
			n++
		}
		h.d.Pages = slices.Insert(h.d.Pages, n-1, page(n, 1, p))
		v.Pages = append(v.Pages, n)
	}
	o.Versions = append(o.Versions, v)
}

// bind adds a binding at the present commit.
func (h *byHand) bind(name string, id int) {
	h.d.Bindings = append(h.d.Bindings, bound(name, id, h.d.Commit, 0))
	slices.SortStableFunc(h.d.Bindings, func(a, b api.Binding) int { return strings.Compare(a.Name, b.Name) })
}

// unbind ends a binding at the present commit.
func (h *byHand) unbind(name string) {
	for i, b := range h.d.Bindings {
		if b.Name == name && b.To == 0 {
			h.d.Bindings[i].To = h.d.Commit
		}
	}
}

func (h *byHand) create(name, text string) (int, api.Errno) {
	if name == "" || name == "B" {
		return 0, api.ErrName
	}
	if len(text) > mostData {
		return 0, api.ErrTooLarge
	}
	if _, ok := h.now()[name]; ok {
		return 0, api.ErrDuplicate
	}
	if len(h.now()) == h.c.Names || h.d.Commit == h.c.Commits || len(h.d.Pages)+h.missing("", text) > h.c.Pages {
		return 0, api.ErrFull
	}
	h.created++
	return h.commit(func(next map[string]shown) {
		next[name] = shown{h.created, h.d.Commit, text, api.OK}
		h.bind(name, h.created)
		h.add(h.created, text)
	})
}

func (h *byHand) put(name, text string) (int, api.Errno) {
	if len(text) > mostData {
		return 0, api.ErrTooLarge
	}
	x, ok := h.now()[name]
	if !ok {
		return 0, api.ErrUnknown
	}
	if h.d.Commit == h.c.Commits || len(h.d.Pages)+h.missing(x.text, text) > h.c.Pages {
		return 0, api.ErrFull
	}
	return h.commit(func(next map[string]shown) {
		next[name] = shown{x.object, h.d.Commit, text, api.OK}
		h.add(x.object, text)
	})
}

func (h *byHand) drop(name string) (int, api.Errno) {
	x, ok := h.now()[name]
	if !ok {
		return 0, api.ErrUnknown
	}
	if h.d.Commit == h.c.Commits {
		return 0, api.ErrFull
	}
	return h.commit(func(next map[string]shown) {
		delete(next, name)
		h.unbind(name)
		l := h.object(x.object).Versions
		l[len(l)-1].To = h.d.Commit
	})
}

func (h *byHand) rename(from, to string) (int, api.Errno) {
	if to == "" || to == "B" {
		return 0, api.ErrName
	}
	x, ok := h.now()[from]
	if !ok {
		return 0, api.ErrUnknown
	}
	if _, ok := h.now()[to]; ok {
		return 0, api.ErrDuplicate
	}
	if h.d.Commit == h.c.Commits {
		return 0, api.ErrFull
	}
	return h.commit(func(next map[string]shown) {
		delete(next, from)
		next[to] = x
		h.unbind(from)
		h.bind(to, x.object)
	})
}

func (h *byHand) pin(commit int) api.Errno {
	if e := errorOf(h.d, commit); e != api.OK {
		return e
	}
	held := 0
	for _, p := range h.d.Pins {
		held += p.Count
	}
	if held == h.c.Pins {
		return api.ErrFull
	}
	for i, p := range h.d.Pins {
		if p.Commit == commit {
			h.d.Pins[i].Count++
			return api.OK
		}
	}
	h.d.Pins = append(h.d.Pins, pin(commit, 1))
	slices.SortFunc(h.d.Pins, func(a, b api.Pin) int { return a.Commit - b.Commit })
	return api.OK
}

func (h *byHand) unpin(commit int) api.Errno {
	for i, p := range h.d.Pins {
		if p.Commit == commit {
			h.d.Pins[i].Count--
			h.d.Pins = slices.DeleteFunc(h.d.Pins, func(p api.Pin) bool { return p.Count == 0 })
			return api.OK
		}
	}
	return api.ErrUnknown
}

// isDead reports whether a span is neither without end nor pinned.
func (h *byHand) isDead(from, to int) bool {
	for _, p := range h.d.Pins {
		if from <= p.Commit && p.Commit < to {
			return false
		}
	}
	return to != 0
}

func (h *byHand) remove(id, from int) api.Errno {
	for i, o := range h.d.Objects {
		for j, v := range o.Versions {
			if o.ID != id || v.From != from {
				continue
			}
			if !h.isDead(v.From, v.To) {
				return api.ErrState
			}
			for _, n := range v.Pages {
				h.page(n).Refs--
			}
			h.d.Pages = slices.DeleteFunc(h.d.Pages, func(p api.Page) bool { return p.Refs == 0 })
			h.d.Objects[i].Versions = slices.Delete(o.Versions, j, j+1)
			h.d.Objects = slices.DeleteFunc(h.d.Objects, func(o api.Object) bool { return len(o.Versions) == 0 })
			return api.OK
		}
	}
	return api.ErrUnknown
}

func (h *byHand) prune() int {
	before := len(h.d.Bindings)
	h.d.Bindings = slices.DeleteFunc(h.d.Bindings, func(b api.Binding) bool { return h.isDead(b.From, b.To) })
	return before - len(h.d.Bindings)
}

// compare compares everything that shows in a store with the one by hand.
func (h *byHand) compare(t *testing.T, s *Store) {
	t.Helper()
	if d := s.Dump(); !sameDump(d, h.d) {
		t.Fatalf("Dump() = %v; want %v", d, h.d)
	}
	if s.Commit() != h.d.Commit || s.Live() != len(h.d.Pages) || s.Pins() != pins.Total(h.d.Pins) {
		t.Fatalf("Commit, Live and Pins are %d, %d and %d; want those of %v", s.Commit(), s.Live(), s.Pins(), h.d)
	}
	for commit := -1; commit <= h.d.Commit+1; commit++ {
		want := errorOf(h.d, commit)
		l, e := s.Names(commit)
		if e != want || e == api.OK && !slices.Equal(l, slices.Sorted(maps.Keys(h.states[commit]))) {
			t.Fatalf("Names(%d) = %q, %d; want error %d", commit, l, e, want)
		}
		for _, name := range []string{"a", "b", "c", "d", "B", ""} {
			if x, y := show(t, s, name, commit), h.visible(name, commit); x != y {
				t.Fatalf("after commit %d %q is %v; want %v", commit, name, x, y)
			}
		}
	}
}

// drawText returns a text whose pages are often equal to those of others.
func drawText(draw func(int) int, size int) string {
	text := ""
	for range draw(5) {
		text += strings.Repeat(string(rune('x'+draw(2))), size)
	}
	if draw(300) == 0 {
		return strings.Repeat("z", mostData+1)
	}
	return text + strings.Repeat("y", draw(4))
}

// callBoth makes a drawn call of a store and of the one by hand, and compares
// the results.
func callBoth(t *testing.T, s *Store, h *byHand, draw func(int) int) {
	t.Helper()
	name, other := []string{"a", "b", "c", "d", "B", ""}[draw(20)*6/25], []string{"a", "b", "c", "d", "B", ""}[draw(6)]
	text := drawText(draw, h.c.PageSize)
	commit := draw(h.d.Commit+3) - 1
	if draw(2) == 0 {
		commit = h.d.Commit
	}
	var n, want int
	var e, wanted api.Errno
	call := draw(16)
	switch call {
	case 0, 1:
		n, e = s.Create(name, []byte(text))
		want, wanted = h.create(name, text)
	case 2, 3, 4, 5:
		n, e = s.Put(name, []byte(text))
		want, wanted = h.put(name, text)
	case 6:
		n, e = s.Drop(name)
		want, wanted = h.drop(name)
	case 7:
		n, e = s.Rename(name, other)
		want, wanted = h.rename(name, other)
	case 8, 9:
		e, wanted = s.Pin(commit), h.pin(commit)
	case 10:
		e, wanted = s.Unpin(commit), h.unpin(commit)
	case 11, 12, 13, 14:
		id := draw(h.created + 2)
		e, wanted = s.Remove(id, commit), h.remove(id, commit)
	case 15:
		n, want = s.Prune(), h.prune()
	}
	if n != want || e != wanted {
		t.Fatalf("call %d with %q, %q, %q and commit %d of %v returns %d, %d; want %d, %d", call, name, other, text, commit, h.d, n, e, want, wanted)
	}
}

func TestManyCallsComparedWithAStoreByHand(t *testing.T) { // P19.2 to P19.10
	for seed := uint32(1); seed <= 120; seed++ {
		x := seed
		draw := func(n int) int {
			x = x*1664525 + 1013904223
			return int(x>>16) % n
		}
		c := api.Config{Sessions: 1, Names: 1 + draw(4), Pages: 1 + draw(30), PageSize: 8 + draw(3), Pins: 1 + draw(6), Commits: 1 + draw(120), Chunk: 1}
		s := open(t, c)
		h := &byHand{c: c, states: []map[string]shown{{}}}
		for range 200 {
			callBoth(t, s, h, draw)
			h.compare(t, s)
		}
		// When nothing is pinned, only the current versions cannot be removed.
		for _, p := range slices.Clone(h.d.Pins) {
			for range p.Count {
				succeeds(t, s.Unpin(p.Commit), h.unpin(p.Commit))
			}
		}
		for _, o := range s.Dump().Objects {
			for _, v := range o.Versions {
				if e, want := s.Remove(o.ID, v.From), h.remove(o.ID, v.From); e != want || (e == api.OK) != (v.To != 0) {
					t.Fatalf("Remove(%d, %d) = %d; want %d", o.ID, v.From, e, want)
				}
			}
		}
		if n, want := s.Prune(), h.prune(); n != want || len(h.d.Bindings) != len(h.d.Objects) || len(h.d.Objects) != len(h.now()) {
			t.Fatalf("Prune() = %d; want %d, and %v", n, want, h.d)
		}
		h.compare(t, s)
	}
}

func TestDataIsNotRetained(t *testing.T) { // R2
	s := open(t, small())
	b := append(make([]byte, 0, 30), "0123456789abcdef!"...)
	copy(b[17:30], "spare capacity")
	before := slices.Clone(b[:30])
	commits(t, 1)(s.Create("a", b))
	commits(t, 2)(s.Put("a", b[:9]))
	commits(t, 3)(s.Put("a", b[:16]))
	s.Create("A", b)
	s.Put("c", b)
	if !bytes.Equal(b[:30], before) {
		t.Errorf("a call changed its argument to %q", b[:30])
	}
	clear(b[:30])
	check(t, s, api.Dump{
		Commit:   3,
		Objects:  []api.Object{object(1, version(1, 2, 17, 1, 2, 3), version(2, 3, 9, 1, 4), version(3, 0, 16, 1, 5))},
		Bindings: []api.Binding{bound("a", 1, 1, 0)},
		Pages:    []api.Page{page(1, 3, "01234567"), page(2, 1, "89abcdef"), page(3, 1, "!"), page(4, 1, "8"), page(5, 1, "89abcdef")},
	})
}

// spoil overwrites all memory of a dump, spare capacity included.
func spoil(d api.Dump) {
	for _, o := range d.Objects {
		for _, v := range o.Versions {
			for i := range v.Pages[:cap(v.Pages)] {
				v.Pages[:cap(v.Pages)][i] = -9
			}
		}
		for i := range o.Versions[:cap(o.Versions)] {
			o.Versions[:cap(o.Versions)][i] = version(-9, -9, -9)
		}
	}
	for _, p := range d.Pages {
		clear(p.Data[:cap(p.Data)])
	}
	clear(d.Objects[:cap(d.Objects)])
	clear(d.Bindings[:cap(d.Bindings)])
	clear(d.Pins[:cap(d.Pins)])
	clear(d.Pages[:cap(d.Pages)])
}

func TestResultsShareNoMemory(t *testing.T) { // R2
	s := open(t, small())
	put(t, s, "a", "0123456789", "01234567xy", "01234567")
	succeeds(t, s.Pin(3))
	put(t, s, "b", "b")
	want, second := s.Dump(), s.Dump()
	names, _ := s.Names(3)
	b, _ := s.Read("a", 3)
	clear(names[:cap(names)])
	clear(b[:cap(b)])
	check(t, s, want)
	spoil(second)
	check(t, s, want)
	names, _ = s.Names(4)
	b, _ = s.Read("a", 4)
	commits(t, 5)(s.Rename("a", "c"))
	commits(t, 6)(s.Drop("c"))
	succeeds(t, s.Unpin(3), s.Remove(1, 3), s.Remove(1, 1), s.Remove(1, 2))
	s.Prune()
	commits(t, 7)(s.Create("d", []byte("new")))
	if !slices.Equal(names, []string{"a", "b"}) || string(b) != "01234567" {
		t.Errorf("a change of the store shows in the results %q and %q", names, b)
	}
	if want.Commit != 4 || textIn(want, want.Objects[0].Versions[2]) != "01234567" || want.Bindings[0] != bound("a", 1, 1, 0) || want.Pins[0] != pin(3, 1) {
		t.Errorf("a change of the store shows in the dump %v", want)
	}
}

func TestVersionsOfADumpShareNoMemory(t *testing.T) { // R2
	s := open(t, small())
	put(t, s, "a", "0123456789", "0123456789", "0123456789")
	d := s.Dump()
	l := d.Objects[0].Versions
	for i, v := range l {
		clear(append(v.Pages, 7))
		clear(v.Pages[:cap(v.Pages)])
		for _, w := range l[i+1:] {
			if !slices.Equal(w.Pages, []int{1, 2}) {
				t.Errorf("a change of the pages of version %d shows in those of another one: %v", i, w.Pages)
			}
		}
	}
	clear(d.Pages[0].Data[:cap(d.Pages[0].Data)])
	if string(d.Pages[1].Data) != "89" {
		t.Errorf("a change of page 1 of a dump shows in page 2: %q", d.Pages[1].Data)
	}
}

func TestReadingChangesNothing(t *testing.T) { // R3, R5
	s := open(t, small())
	put(t, s, "a", "0123456789", "01234567xy")
	want := s.Dump()
	for commit := -1; commit < 5; commit++ {
		for _, name := range []string{"", "a", "b", "A"} {
			s.Read(name, commit)
			s.Version(name, commit)
		}
		s.Names(commit)
	}
	s.Commit()
	s.Live()
	s.Pins()
	s.Dump()
	ValidateConfig(small())
	check(t, s, want)
}
