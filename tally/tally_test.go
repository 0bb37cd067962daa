package tally

import (
	"bytes"
	"encoding/binary"
	"math"
	"slices"
	"strings"
	"testing"

	"sketchstore/api"
)

// most is the limit of the chapter, written once more so that a wrong one
// shows.
const most = 4294967295

// edges are the numbers at which a limit, a sum or an encoding could go wrong.
func edges() []int {
	return []int{
		math.MinInt, math.MinInt + 1, -1 << 32, -most, -2, -1,
		0, 1, 2, 3, 246, 247, 248, 249, 255, 256, 257, 1<<16 - 1, 1 << 16, 1<<24 - 1, 1 << 24,
		1<<31 - 1, 1 << 31, 1<<31 + 1, most - 2, most - 1, most, most + 1, most + 2, 1 << 33, 1 << 62, math.MaxInt - 1, math.MaxInt,
	}
}

// isValid is P6.1.
func isValid(t api.Tally) bool {
	return t.Total >= 0 && t.Total <= most && t.Items >= 0 && t.Items <= most && t.Items <= t.Total
}

// tallies returns tallies with all pairs of edges, valid ones or others.
func tallies(valid bool) []api.Tally {
	var l []api.Tally
	for _, total := range edges() {
		for _, items := range edges() {
			for _, saturated := range []bool{false, true} {
				if t := (api.Tally{Total: total, Items: items, Saturated: saturated}); isValid(t) == valid {
					l = append(l, t)
				}
			}
		}
	}
	return l
}

// added is what P6.2 and P6.3 say about the sum of two valid tallies; no sum
// of two numbers up to most overflows.
func added(a, b api.Tally) api.Tally {
	total, items := a.Total+b.Total, a.Items+b.Items
	full := total > most || items > most
	return api.Tally{Total: min(total, most), Items: min(items, most), Saturated: a.Saturated || b.Saturated || full}
}

// codeOf is wire.EncodeUint of a number that is not negative.
func codeOf(n int) []byte {
	if n < 248 {
		return []byte{byte(n)}
	}
	digits := bytes.TrimLeft(binary.BigEndian.AppendUint64(nil, uint64(n)), "\x00")
	return append([]byte{byte(247 + len(digits))}, digits...)
}

// join returns the encodings of numbers in one list.
func join(numbers ...int) []byte {
	var b []byte
	for _, n := range numbers {
		b = append(b, codeOf(n)...)
	}
	return b
}

func TestNew(t *testing.T) {
	if x := New(); x != (api.Tally{}) {
		t.Errorf("New() = %v", x)
	}
	if e := Validate(New()); e != api.OK {
		t.Errorf("Validate(New()) = %d", e)
	}
}

func TestValidate(t *testing.T) {
	for _, x := range []struct {
		total, items int
		want         api.Errno
	}{
		{0, 0, api.OK},
		{1, 0, api.OK},
		{1, 1, api.OK},
		{3, 2, api.OK},
		{most, 0, api.OK},
		{most, most - 1, api.OK},
		{most, most, api.OK},
		{0, 1, api.ErrRange},
		{1, 2, api.ErrRange},
		{most - 1, most, api.ErrRange},
		{-1, 0, api.ErrRange},
		{0, -1, api.ErrRange},
		{5, -1, api.ErrRange},
		{-1, -1, api.ErrRange},
		{-1, -2, api.ErrRange},
		{most + 1, 0, api.ErrRange},
		{most + 1, most, api.ErrRange},
		{most + 1, most + 1, api.ErrRange},
		{most, most + 1, api.ErrRange},
		{math.MaxInt, math.MaxInt, api.ErrRange},
		{math.MinInt, math.MinInt, api.ErrRange},
		{math.MaxInt, math.MinInt, api.ErrRange},
		{math.MinInt, math.MaxInt, api.ErrRange},
	} {
		for _, saturated := range []bool{false, true} {
			if e := Validate(api.Tally{Total: x.total, Items: x.items, Saturated: saturated}); e != x.want {
				t.Errorf("Validate of total %d, items %d, %t = %d; want %d", x.total, x.items, saturated, e, x.want)
			}
		}
	}
}

func TestValidateAtTheEdges(t *testing.T) {
	for _, x := range tallies(true) {
		if e := Validate(x); e != api.OK {
			t.Errorf("Validate(%v) = %d", x, e)
		}
	}
	for _, x := range tallies(false) {
		if e := Validate(x); e != api.ErrRange {
			t.Errorf("Validate(%v) = %d", x, e)
		}
	}
}

func TestInsert(t *testing.T) {
	for _, x := range []struct {
		before api.Tally
		weight int
		after  api.Tally
	}{
		{api.Tally{}, 3, api.Tally{Total: 3, Items: 1}},
		{api.Tally{}, 1, api.Tally{Total: 1, Items: 1}},
		{api.Tally{}, most, api.Tally{Total: most, Items: 1}},
		{api.Tally{Total: 3, Items: 1}, 4, api.Tally{Total: 7, Items: 2}},
		{api.Tally{Total: 3}, 4, api.Tally{Total: 7, Items: 1}},
		{api.Tally{Saturated: true}, 4, api.Tally{Total: 4, Items: 1, Saturated: true}},
		{api.Tally{Total: most - 1, Items: 9}, 1, api.Tally{Total: most, Items: 10}},
		{api.Tally{Total: most - 1, Items: 9}, 2, api.Tally{Total: most, Items: 10, Saturated: true}},
		{api.Tally{Total: most, Items: 9}, 1, api.Tally{Total: most, Items: 10, Saturated: true}},
		{api.Tally{Total: most, Items: most - 1}, 1, api.Tally{Total: most, Items: most, Saturated: true}},
		{api.Tally{Total: most - 1, Items: most - 1}, 1, api.Tally{Total: most, Items: most}},
		{api.Tally{Total: most, Items: most}, 1, api.Tally{Total: most, Items: most, Saturated: true}},
		{api.Tally{Total: most, Items: most}, most, api.Tally{Total: most, Items: most, Saturated: true}},
		{api.Tally{Total: most, Items: most, Saturated: true}, 1, api.Tally{Total: most, Items: most, Saturated: true}},
	} {
		if after, e := Insert(x.before, api.Item{Key: "a", Weight: x.weight}); e != api.OK || after != x.after {
			t.Errorf("Insert(%v, weight %d) = %v, %d; want %v", x.before, x.weight, after, e, x.after)
		}
	}
}

func TestInsertOfEachWeight(t *testing.T) {
	keys := []string{"a", "\x00", "\xff", " ", "é", strings.Repeat("k", 32)}
	for _, before := range tallies(true) {
		for i, weight := range edges() {
			want, wantError := api.Tally{}, api.ErrRange
			if weight >= 1 && weight <= most {
				want, wantError = added(before, api.Tally{Total: weight, Items: 1}), api.OK
			}
			// The key has no influence on the tally.
			item := api.Item{Key: keys[i%len(keys)], Weight: weight}
			if after, e := Insert(before, item); e != wantError || after != want {
				t.Errorf("Insert(%v, %q, %d) = %v, %d; want %v, %d", before, item.Key, weight, after, e, want, wantError)
			}
		}
	}
}

func TestErrorsOfInsert(t *testing.T) {
	good := api.Tally{Total: 5, Items: 2, Saturated: true}
	bad := api.Tally{Total: 2, Items: 5, Saturated: true}
	long := strings.Repeat("k", 33)
	for _, x := range []struct {
		t    api.Tally
		item api.Item
		want api.Errno
	}{
		{good, api.Item{}, api.ErrKey},
		{good, api.Item{Weight: 1}, api.ErrKey},
		{good, api.Item{Key: long, Weight: 1}, api.ErrKey},
		{good, api.Item{Key: long, Weight: -1}, api.ErrKey},
		{good, api.Item{Key: "a"}, api.ErrRange},
		{good, api.Item{Key: "a", Weight: -1}, api.ErrRange},
		{good, api.Item{Key: "a", Weight: most + 1}, api.ErrRange},
		{good, api.Item{Key: "a", Weight: math.MaxInt}, api.ErrRange},
		{good, api.Item{Key: "a", Weight: math.MinInt}, api.ErrRange},
		{bad, api.Item{Key: "a", Weight: 1}, api.ErrRange},
		{bad, api.Item{}, api.ErrRange},
		{bad, api.Item{Key: long, Weight: 1}, api.ErrRange},
		{bad, api.Item{Key: "a", Weight: -1}, api.ErrRange},
	} {
		if after, e := Insert(x.t, x.item); e != x.want || after != (api.Tally{}) {
			t.Errorf("Insert(%v, %v) = %v, %d; want error %d", x.t, x.item, after, e, x.want)
		}
	}
	for _, x := range tallies(false) {
		if after, e := Insert(x, api.Item{Weight: 1}); e != api.ErrRange || after != (api.Tally{}) {
			t.Errorf("Insert(%v, empty key) = %v, %d", x, after, e)
		}
	}
}

func TestMerge(t *testing.T) {
	for _, x := range []struct{ a, b, want api.Tally }{
		{api.Tally{}, api.Tally{}, api.Tally{}},
		{api.Tally{Total: 5, Items: 2}, api.Tally{}, api.Tally{Total: 5, Items: 2}},
		{api.Tally{Total: 5, Items: 2}, api.Tally{Total: 9, Items: 3}, api.Tally{Total: 14, Items: 5}},
		{api.Tally{}, api.Tally{Saturated: true}, api.Tally{Saturated: true}},
		{api.Tally{Saturated: true}, api.Tally{Saturated: true}, api.Tally{Saturated: true}},
		{api.Tally{Total: most - 1, Items: 1}, api.Tally{Total: 1, Items: 1}, api.Tally{Total: most, Items: 2}},
		{api.Tally{Total: most - 1, Items: 1}, api.Tally{Total: 2, Items: 1}, api.Tally{Total: most, Items: 2, Saturated: true}},
		{api.Tally{Total: most, Items: 1}, api.Tally{}, api.Tally{Total: most, Items: 1}},
		{api.Tally{Total: most, Items: 1}, api.Tally{Total: most}, api.Tally{Total: most, Items: 1, Saturated: true}},
		{api.Tally{Total: most, Items: most - 1}, api.Tally{Total: 1, Items: 1}, api.Tally{Total: most, Items: most, Saturated: true}},
		{api.Tally{Total: most, Items: most}, api.Tally{Total: most, Items: most}, api.Tally{Total: most, Items: most, Saturated: true}},
	} {
		if c, e := Merge(x.a, x.b); e != api.OK || c != x.want {
			t.Errorf("Merge(%v, %v) = %v, %d; want %v", x.a, x.b, c, e, x.want)
		}
		if c, e := Merge(x.b, x.a); e != api.OK || c != x.want {
			t.Errorf("Merge(%v, %v) = %v, %d; want %v", x.b, x.a, c, e, x.want)
		}
	}
}

func TestMergeOfAllPairs(t *testing.T) {
	good := tallies(true)
	for _, a := range good {
		for _, b := range good {
			if c, e := Merge(a, b); e != api.OK || c != added(a, b) {
				t.Errorf("Merge(%v, %v) = %v, %d; want %v", a, b, c, e, added(a, b))
			}
		}
	}
}

func TestMergeIsAssociative(t *testing.T) {
	var l []api.Tally
	for i, x := range tallies(true) {
		if i%5 == 0 {
			l = append(l, x)
		}
	}
	for _, a := range l {
		for _, b := range l {
			ab, _ := Merge(a, b)
			for _, c := range l {
				bc, _ := Merge(b, c)
				left, _ := Merge(ab, c)
				right, _ := Merge(a, bc)
				if left != right {
					t.Errorf("%v, %v and %v give %v and %v", a, b, c, left, right)
				}
			}
		}
	}
}

func TestMergeEqualsInsertionOfTheUnion(t *testing.T) {
	weights := []int{1, 7, most - 20, 9, 3, 1, 2, most}
	for n := range len(weights) + 1 {
		for split := range n + 1 {
			var parts [2]api.Tally
			all := New()
			for i, weight := range weights[:n] {
				item := api.Item{Key: "a", Weight: weight}
				all, _ = Insert(all, item)
				part := &parts[0]
				if i >= split {
					part = &parts[1]
				}
				*part, _ = Insert(*part, item)
			}
			if c, e := Merge(parts[0], parts[1]); e != api.OK || c != all {
				t.Errorf("Merge of %v = %v, %d; want %v", parts, c, e, all)
			}
		}
	}
}

func TestErrorsOfMerge(t *testing.T) {
	for _, good := range []api.Tally{{}, {Total: 5, Items: 2, Saturated: true}, {Total: most, Items: most}} {
		for _, bad := range tallies(false) {
			for _, x := range [][2]api.Tally{{good, bad}, {bad, good}, {bad, bad}} {
				if c, e := Merge(x[0], x[1]); e != api.ErrRange || c != (api.Tally{}) {
					t.Errorf("Merge(%v, %v) = %v, %d", x[0], x[1], c, e)
				}
			}
		}
	}
}

func TestEncode(t *testing.T) {
	for _, x := range []struct {
		t    api.Tally
		want []byte
	}{
		{api.Tally{}, []byte{0, 0, 0}},
		{api.Tally{Saturated: true}, []byte{0, 0, 1}},
		{api.Tally{Total: 3, Items: 1}, []byte{3, 1, 0}},
		{api.Tally{Total: 247, Items: 247}, []byte{247, 247, 0}},
		{api.Tally{Total: 248, Items: 247, Saturated: true}, []byte{248, 248, 247, 1}},
		{api.Tally{Total: 300, Items: 7, Saturated: true}, []byte{249, 1, 44, 7, 1}},
		{api.Tally{Total: 1 << 16, Items: 256}, []byte{250, 1, 0, 0, 249, 1, 0, 0}},
		{api.Tally{Total: most, Items: most, Saturated: true}, []byte{251, 255, 255, 255, 255, 251, 255, 255, 255, 255, 1}},
	} {
		if b, e := Encode(x.t); e != api.OK || !bytes.Equal(b, x.want) {
			t.Errorf("Encode(%v) = %v, %d; want %v", x.t, b, e, x.want)
		}
		if again, e := Decode(x.want); e != api.OK || again != x.t {
			t.Errorf("Decode(%v) = %v, %d; want %v", x.want, again, e, x.t)
		}
	}
}

func TestEncodeAtTheEdges(t *testing.T) {
	for _, x := range tallies(true) {
		saturated := 0
		if x.Saturated {
			saturated = 1
		}
		want := join(x.Total, x.Items, saturated)
		if b, e := Encode(x); e != api.OK || !bytes.Equal(b, want) {
			t.Errorf("Encode(%v) = %v, %d; want %v", x, b, e, want)
		}
		if again, e := Decode(want); e != api.OK || again != x {
			t.Errorf("Decode(%v) = %v, %d; want %v", want, again, e, x)
		}
	}
	for _, x := range tallies(false) {
		if b, e := Encode(x); e != api.ErrRange || len(b) > 0 {
			t.Errorf("Encode(%v) = %v, %d", x, b, e)
		}
	}
}

func TestDecodeOfAllShortLists(t *testing.T) {
	check := func(want bool, b ...byte) {
		x, e := Decode(b)
		if want {
			if e != api.OK || x != (api.Tally{Total: int(b[0]), Items: int(b[1]), Saturated: b[2] == 1}) {
				t.Errorf("Decode(%v) = %v, %d", b, x, e)
			}
		} else if e != api.ErrForm || x != (api.Tally{}) {
			t.Errorf("Decode(%v) = %v, %d", b, x, e)
		}
	}
	check(false)
	for i := range 256 {
		check(false, byte(i))
		for j := range 256 {
			check(false, byte(i), byte(j))
			for _, last := range []byte{0, 1, 2, 3, 128, 247, 248, 254, 255} {
				check(i < 248 && j <= i && last <= 1, byte(i), byte(j), last)
			}
		}
	}
}

func TestDecodeRefuses(t *testing.T) {
	for _, b := range [][]byte{
		join(3, 4, 0),
		join(4, 3, 2),
		join(4, 3, 255),
		join(4, 3, 256),
		join(4, 3, 257),
		join(4, 3, 1<<32),
		join(4, 3, 1<<32+1),
		join(4, 3),
		join(4, 3, 0, 0),
		join(4, 3, 1, 1),
		join(most+1, 3, 0),
		join(most+1, most+1, 0),
		join(most, most+1, 0),
		join(most-1, most, 1),
		join(1<<62, 1<<62, 0),
		join(1<<62, 0, 0),
		join(0, 1<<62, 0),
		join(1<<62+1, 0, 0),
		join(math.MaxInt, 0, 0),
		// Numbers that wire.EncodeUint does not write in this way.
		{248, 4, 3, 0},
		{248, 247, 3, 0},
		{249, 0, 248, 3, 0},
		{4, 248, 3, 0},
		{4, 3, 248, 0},
		{4, 3, 248, 1},
		{4, 3, 249, 0, 1},
		{255, 0, 0, 0, 0, 0, 0, 0, 4, 3, 0},
		{255, 255, 255, 255, 255, 255, 255, 255, 255, 3, 0},
		bytes.Repeat([]byte{0}, 4),
		bytes.Repeat([]byte{0}, 1000),
	} {
		if x, e := Decode(b); e != api.ErrForm || x != (api.Tally{}) {
			t.Errorf("Decode(%v) = %v, %d", b, x, e)
		}
	}
}

func TestDecodeOfChangedLists(t *testing.T) {
	for _, x := range tallies(true) {
		b, _ := Encode(x)
		for i := range b {
			// The missing bytes still follow, as spare capacity.
			if y, e := Decode(b[:i]); e != api.ErrForm || y != (api.Tally{}) {
				t.Errorf("Decode(%v) = %v, %d", b[:i], y, e)
			}
		}
		for _, c := range []byte{0, 1, 248, 255} {
			if y, e := Decode(append(slices.Clone(b), c)); e != api.ErrForm || y != (api.Tally{}) {
				t.Errorf("Decode(%v and %d) = %v, %d", b, c, y, e)
			}
		}
		for i := range b {
			for _, c := range []byte{0, 1, 2, 3, 247, 248, 249, 250, 251, 252, 255} {
				changed := slices.Clone(b)
				changed[i] = c
				checkExact(t, changed)
			}
		}
	}
}

// checkExact checks that Decode finds a tally only if its encoding is b.
func checkExact(t *testing.T, b []byte) {
	x, e := Decode(b)
	if e != api.OK {
		if e != api.ErrForm || x != (api.Tally{}) {
			t.Errorf("Decode(%v) = %v, %d", b, x, e)
		}
		return
	}
	saturated := 0
	if x.Saturated {
		saturated = 1
	}
	if !isValid(x) || !bytes.Equal(join(x.Total, x.Items, saturated), b) {
		t.Errorf("Decode(%v) = %v", b, x)
	}
}

func TestBytesAreNeitherChangedNorShared(t *testing.T) {
	x := api.Tally{Total: 300, Items: 7, Saturated: true}
	first, _ := Encode(x)
	clear(first[:cap(first)])
	if second, _ := Encode(x); !bytes.Equal(second, []byte{249, 1, 44, 7, 1}) {
		t.Errorf("Encode(%v) = %v after a change of an earlier result", x, second)
	}
	wider := []byte{249, 1, 44, 7, 1, 9, 9, 9}
	if y, e := Decode(wider[:5]); e != api.OK || y != x {
		t.Errorf("Decode with spare capacity is %v, %d", y, e)
	}
	if !bytes.Equal(wider, []byte{249, 1, 44, 7, 1, 9, 9, 9}) {
		t.Errorf("Decode changed its argument to %v", wider)
	}
}
