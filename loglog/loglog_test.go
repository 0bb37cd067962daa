package loglog

import (
	"bytes"
	"encoding/binary"
	"math"
	"math/big"
	"math/bits"
	"slices"
	"strconv"
	"strings"
	"testing"

	"sketchstore/api"
	"sketchstore/mixer"
)

// The limits of the chapter, written once more so that wrong ones show.
const (
	least     = 2
	most      = 8
	mostTotal = 1 << 40
	mostOf    = 4294967295
)

// edges are the numbers at which a limit or a shift could go wrong.
func edges() []int {
	return []int{
		math.MinInt, math.MinInt + 1, -1 << 61, -1 << 32, -256, -64, -63, -62, -9, -8, -3, -2, -1,
		0, 1, 2, 3, 4, 7, 8, 9, 10, 31, 32, 33, 55, 56, 57, 58, 59, 60, 61, 62, 63, 64, 65, 66,
		127, 128, 247, 248, 255, 256, 257, 258, 256 + 63, 512, 1 << 16, 1 << 31, mostOf, mostOf + 1,
		1<<32 + 2, 1<<32 + 8, 1 << 61, 1 << 62, math.MaxInt - 1, math.MaxInt,
	}
}

func same(a, b api.LogLog) bool {
	return a.Precision == b.Precision && a.Seed == b.Seed && slices.Equal(a.Registers, b.Registers)
}

func isZero(l api.LogLog) bool {
	return same(l, api.LogLog{})
}

// positionOf is P8.2 for a valid precision and a key, bit by bit.
func positionOf(precision int, seed uint64, key string) (register, rank int) {
	hash, _ := mixer.Hash(mixer.Table(seed), key)
	for i := range precision {
		register = 2*register + int(hash>>(63-i)&1)
	}
	rank = 1
	for i := 63 - precision; i >= 0 && hash>>i&1 == 0; i-- {
		rank++
	}
	return register, rank
}

// inserted is P8.3 for a valid sketch and a key.
func inserted(l api.LogLog, key string) api.LogLog {
	register, rank := positionOf(l.Precision, l.Seed, key)
	l.Registers = slices.Clone(l.Registers)
	l.Registers[register] = max(l.Registers[register], rank)
	return l
}

// estimated is P8.4 for a valid sketch, with numbers of any size.
func estimated(l api.LogLog) int {
	if slices.Max(l.Registers) == 0 {
		return 0
	}
	w := map[int]int64{2: 541000, 3: 627000, 4: 673000, 5: 697000, 6: 709000, 7: 715270, 8: 718271}[l.Precision]
	z := new(big.Int)
	for _, r := range l.Registers {
		z.Add(z, new(big.Int).Rsh(big.NewInt(1<<50), uint(r)))
	}
	if z.Sign() == 0 {
		z.SetInt64(1)
	}
	n := big.NewInt(w)
	n.Mul(n, big.NewInt(int64(len(l.Registers))))
	n.Mul(n, big.NewInt(int64(len(l.Registers))))
	n.Lsh(n, 50)
	n.Quo(n, z.Mul(z, big.NewInt(1000000)))
	if n.Cmp(big.NewInt(mostTotal)) > 0 {
		return mostTotal
	}
	return int(n.Int64())
}

// join returns the encoding that P8.5 describes, of numbers below 256 for the
// registers and a precision below 248.
func join(precision int, seed uint64, registers ...int) []byte {
	b := binary.BigEndian.AppendUint64([]byte{byte(precision)}, seed)
	for _, r := range registers {
		b = append(b, byte(r))
	}
	return b
}

func joined(l api.LogLog) []byte {
	return join(l.Precision, l.Seed, l.Registers...)
}

// seedOf returns a seed with which the key "\x01" has a hash, if there is one:
// both words that Hash takes from the table are the same, the word at 1.
func seedOf(hash uint64) (seed uint64, ok bool) {
	sum := unmix(hash) * inverse(0x100000001b3)
	word := unrotate(sum)
	if word^bits.RotateLeft64(word, 5) != sum {
		return 0, false
	}
	step := uint64(0x9e3779b97f4a7c15)
	return unmix(word) - 2*step, true
}

// unrotate solves word XOR (word rotated to the left by 5) = sum, bit by bit
// from a lowest bit 0 on.
func unrotate(sum uint64) uint64 {
	word := uint64(0)
	for i := 5; i%64 != 0; i += 5 {
		before := word >> ((i - 5) % 64) & 1
		word |= (before ^ sum>>(i%64)&1) << (i % 64)
	}
	return word
}

// unmix is the inverse of mixer.Mix.
func unmix(x uint64) uint64 {
	x = unshift(x, 31)
	x *= inverse(0x94d049bb133111eb)
	x = unshift(x, 27)
	x *= inverse(0xbf58476d1ce4e5b9)
	return unshift(x, 30)
}

func unshift(x uint64, by int) uint64 {
	return x ^ x>>by ^ x>>(2*by)
}

// inverse returns the inverse of an odd number modulo 2^64: each turn doubles
// the number of bits that are right.
func inverse(odd uint64) uint64 {
	x := odd
	for range 6 {
		x *= 2 - odd*x
	}
	return x
}

// words returns the first n numbers of a fixed sequence.
func words(n int) []uint64 {
	var l []uint64
	for i := range n {
		l = append(l, mixer.Mix(uint64(i)*12345+678))
	}
	return l
}

// keysOf returns n different keys.
func keysOf(n int) []string {
	var l []string
	for i := range n {
		l = append(l, "k"+strconv.Itoa(i))
	}
	return l
}

// sketchOf returns a sketch with registers of all sizes.
func sketchOf(precision int, seed uint64) api.LogLog {
	l := api.LogLog{Precision: precision, Seed: seed}
	for _, x := range words(1 << precision) {
		l.Registers = append(l.Registers, int(x%uint64(66-precision)))
	}
	return l
}

func withRegister(l api.LogLog, i, r int) api.LogLog {
	l.Registers = slices.Clone(l.Registers)
	l.Registers[i] = r
	return l
}

func badSketches() []api.LogLog {
	return []api.LogLog{
		{},
		{Precision: 1, Registers: make([]int, 2)},
		{Precision: 9, Registers: make([]int, 512)},
		{Precision: -1, Seed: 4},
		{Precision: 2, Seed: 7},
		{Precision: 2, Seed: 7, Registers: make([]int, 5)},
		{Precision: 2, Seed: 7, Registers: []int{0, 0, 0, 64}},
		{Precision: 2, Seed: 7, Registers: []int{-1, 0, 0, 0}},
		{Precision: 8, Seed: 7, Registers: slices.Repeat([]int{58}, 256)},
	}
}

func TestNew(t *testing.T) {
	for _, seed := range []uint64{0, 1, 99, 1 << 63, math.MaxUint64} {
		for _, precision := range append(edges(), 5, 6) {
			l, e := New(precision, seed)
			if precision < least || precision > most {
				if e != api.ErrRange || !isZero(l) {
					t.Errorf("New(%d, %d) = %v, %d", precision, seed, l, e)
				}
				continue
			}
			want := api.LogLog{Precision: precision, Seed: seed, Registers: make([]int, 1<<precision)}
			if e != api.OK || !same(l, want) || Validate(l) != api.OK {
				t.Errorf("New(%d, %d) = %v, %d", precision, seed, l, e)
			}
		}
	}
}

func TestValidate(t *testing.T) {
	for _, x := range []struct {
		precision int
		registers []int
		want      api.Errno
	}{
		{2, []int{0, 0, 0, 0}, api.OK},
		{2, []int{63, 0, 1, 62}, api.OK},
		{8, make([]int, 256), api.OK},
		{0, []int{0}, api.ErrRange},
		{1, []int{0, 0}, api.ErrRange},
		{9, make([]int, 512), api.ErrRange},
		{-2, make([]int, 4), api.ErrRange},
		{64, nil, api.ErrRange},
		{math.MinInt, nil, api.ErrRange},
		{math.MaxInt, []int{0}, api.ErrRange},
		{2, nil, api.ErrShape},
		{2, make([]int, 3), api.ErrShape},
		{2, make([]int, 5), api.ErrShape},
		{3, make([]int, 4), api.ErrShape},
		{7, make([]int, 256), api.ErrShape},
		{8, make([]int, 255), api.ErrShape},
		{8, make([]int, 257), api.ErrShape},
		{8, make([]int, 128), api.ErrShape},
		// The number of registers comes before their values.
		{2, []int{-1, 64, 0}, api.ErrShape},
		{3, []int{-1, 64, 0, 0}, api.ErrShape},
	} {
		l := api.LogLog{Precision: x.precision, Seed: 5, Registers: x.registers}
		if e := Validate(l); e != x.want {
			t.Errorf("Validate(%v) = %d; want %d", l, e, x.want)
		}
	}
}

func TestValidateOfEachRegister(t *testing.T) {
	for precision := least; precision <= most; precision++ {
		l := sketchOf(precision, 3)
		for i, old := range l.Registers {
			for _, n := range edges() {
				want := api.OK
				if n < 0 || n > 65-precision {
					want = api.ErrRange
				}
				l.Registers[i] = n
				if e := Validate(l); e != want {
					t.Errorf("Validate with %d in register %d of precision %d = %d; want %d", n, i, precision, e, want)
				}
			}
			l.Registers[i] = old
		}
	}
}

// The positions of this test, for the precisions 2 to 8, were computed outside
// of the program. The last seed makes a hash that is 0.
func TestPosition(t *testing.T) {
	for _, x := range []struct {
		seed uint64
		key  string
		want [7][2]int
	}{
		{0, "a", [7][2]int{{3, 1}, {7, 2}, {14, 1}, {29, 1}, {59, 1}, {119, 1}, {239, 1}}},
		{0, "b", [7][2]int{{2, 1}, {5, 2}, {10, 1}, {21, 1}, {43, 2}, {86, 1}, {173, 2}}},
		{1, "a", [7][2]int{{3, 1}, {7, 2}, {14, 1}, {29, 3}, {58, 2}, {116, 1}, {233, 1}}},
		{7, "key", [7][2]int{{0, 2}, {0, 1}, {1, 1}, {3, 7}, {6, 6}, {12, 5}, {24, 4}}},
		{12345, "a b", [7][2]int{{2, 1}, {5, 1}, {11, 2}, {22, 1}, {45, 2}, {90, 1}, {181, 2}}},
		{math.MaxUint64, "\x00", [7][2]int{{3, 2}, {6, 1}, {13, 2}, {26, 1}, {53, 2}, {106, 1}, {213, 4}}},
		{1 << 63, "\xff", [7][2]int{{3, 2}, {6, 1}, {13, 3}, {26, 2}, {52, 1}, {105, 2}, {210, 1}}},
		{1 << 63, strings.Repeat("k", 32), [7][2]int{{1, 4}, {2, 3}, {4, 2}, {8, 1}, {17, 1}, {35, 1}, {71, 1}}},
		{0x0102030405060708, "é", [7][2]int{{3, 5}, {6, 4}, {12, 3}, {24, 2}, {48, 1}, {97, 1}, {195, 1}}},
		{0xc3910c8d016b07d6, "\x01", [7][2]int{{0, 63}, {0, 62}, {0, 61}, {0, 60}, {0, 59}, {0, 58}, {0, 57}}},
	} {
		for i, want := range x.want {
			register, rank, e := Position(i+2, x.seed, x.key)
			if register != want[0] || rank != want[1] || e != api.OK {
				t.Errorf("Position(%d, %d, %q) = %d, %d, %d; want %v", i+2, x.seed, x.key, register, rank, e, want)
			}
		}
	}
}

func TestPositionOfManyKeys(t *testing.T) {
	for precision := least; precision <= most; precision++ {
		for _, seed := range words(3) {
			for _, key := range keysOf(300) {
				wantRegister, wantRank := positionOf(precision, seed, key)
				register, rank, e := Position(precision, seed, key)
				if register != wantRegister || rank != wantRank || e != api.OK {
					t.Errorf("Position(%d, %d, %q) = %d, %d, %d; want %d, %d", precision, seed, key, register, rank, e, wantRegister, wantRank)
				}
			}
		}
	}
}

// hashOf returns a hash for a register and a rank. Its bits below the one that
// ends the leading zeros are those of rest.
func hashOf(precision, register, rank int, rest uint64) uint64 {
	hash := uint64(register) << (64 - precision)
	if rank <= 64-precision {
		hash |= (1<<63 | rest>>1) >> (precision + rank - 1)
	}
	return hash
}

// No list of common keys has the great ranks; seeds that make them are computed.
func TestPositionOfEachRank(t *testing.T) {
	for precision := least; precision <= most; precision++ {
		for rank := 1; rank <= 65-precision; rank++ {
			checked := 0
			for register := range 1 << precision {
				for _, rest := range []uint64{0, math.MaxUint64, 0x123456789abcdef0} {
					seed, ok := seedOf(hashOf(precision, register, rank, rest))
					if !ok {
						continue
					}
					checked++
					gotRegister, gotRank, e := Position(precision, seed, "\x01")
					if gotRegister != register || gotRank != rank || e != api.OK {
						t.Errorf("Position(%d, %d, 1) = %d, %d, %d; want %d, %d", precision, seed, gotRegister, gotRank, e, register, rank)
					}
				}
			}
			if checked == 0 {
				t.Errorf("there is no seed for precision %d and rank %d", precision, rank)
			}
		}
	}
}

func TestErrorsOfPosition(t *testing.T) {
	for _, precision := range edges() {
		for _, key := range []string{"a", strings.Repeat("k", 32), "", strings.Repeat("k", 33), strings.Repeat("k", 1000)} {
			want := api.OK
			if precision < least || precision > most {
				want = api.ErrRange
			} else if len(key) < 1 || len(key) > 32 {
				want = api.ErrKey
			}
			register, rank, e := Position(precision, 4, key)
			if e != want || e != api.OK && (register != 0 || rank != 0) {
				t.Errorf("Position(%d, 4, %q) = %d, %d, %d; want error %d", precision, key, register, rank, e, want)
			}
		}
	}
}

// The registers of this test were computed outside of the program.
func TestInsert(t *testing.T) {
	l, _ := New(3, 7)
	for i, key := range []string{"a", "b", "c", "key", "z"} {
		var e api.Errno
		if l, e = Insert(l, api.Item{Key: key, Weight: i + 1}); e != api.OK {
			t.Fatalf("Insert of %q: error %d", key, e)
		}
	}
	want := api.LogLog{Precision: 3, Seed: 7, Registers: []int{1, 1, 0, 0, 0, 1, 4, 0}}
	if !same(l, want) {
		t.Errorf("the sketch is %v; want %v", l, want)
	}
}

func TestOneInsertion(t *testing.T) {
	for precision := least; precision <= most; precision++ {
		empty, _ := New(precision, 12)
		for _, key := range keysOf(50) {
			l, e := Insert(empty, api.Item{Key: key, Weight: 1})
			used := 0
			for _, r := range l.Registers {
				if r != 0 {
					used++
				}
			}
			if e != api.OK || used != 1 || !same(l, inserted(empty, key)) {
				t.Errorf("Insert of %q = %v, %d", key, l, e)
			}
			if again, e := Insert(l, api.Item{Key: key, Weight: mostOf}); e != api.OK || !same(again, l) {
				t.Errorf("a second Insert of %q = %v, %d; want %v", key, again, e, l)
			}
		}
	}
}

func TestInsertTakesTheLargerRank(t *testing.T) {
	for precision := least; precision <= most; precision++ {
		for _, key := range []string{"a", "\x00", "\xff", " ", "é", strings.Repeat("k", 32)} {
			register, _ := positionOf(precision, 5, key)
			for r := range 66 - precision {
				l := withRegister(sketchOf(precision, 5), register, r)
				want := inserted(l, key)
				if d, e := Insert(l, api.Item{Key: key, Weight: 3}); e != api.OK || !same(d, want) {
					t.Errorf("Insert(%v, %q) = %v, %d; want %v", l, key, d, e, want)
				}
			}
		}
	}
}

func TestInsertOfTheGreatestRank(t *testing.T) {
	seed, ok := seedOf(0)
	if !ok {
		t.Fatal("there is no seed for the hash 0")
	}
	for precision := least; precision <= most; precision++ {
		l, _ := New(precision, seed)
		l, e := Insert(l, api.Item{Key: "\x01", Weight: 1})
		if e != api.OK || l.Registers[0] != 65-precision || Validate(l) != api.OK {
			t.Errorf("Insert = %v, %d", l, e)
		}
	}
}

func TestWeightsDoNotMatter(t *testing.T) {
	l := sketchOf(4, 11)
	for _, key := range []string{"a", "b", "k"} {
		for _, weight := range edges() {
			want, wantError := api.LogLog{}, api.ErrRange
			if weight >= 1 && weight <= mostOf {
				want, wantError = inserted(l, key), api.OK
			}
			if d, e := Insert(l, api.Item{Key: key, Weight: weight}); e != wantError || !same(d, want) {
				t.Errorf("Insert of %q with %d = %v, %d; want %v, %d", key, weight, d, e, want, wantError)
			}
		}
	}
}

func TestErrorsOfInsert(t *testing.T) {
	good := sketchOf(3, 7)
	shape := api.LogLog{Precision: 3, Seed: 7}
	full := api.LogLog{Precision: 2, Registers: []int{0, 0, 0, 64}}
	long := strings.Repeat("k", 33)
	for _, x := range []struct {
		l    api.LogLog
		item api.Item
		want api.Errno
	}{
		{good, api.Item{}, api.ErrKey},
		{good, api.Item{Weight: 1}, api.ErrKey},
		{good, api.Item{Key: long, Weight: 1}, api.ErrKey},
		{good, api.Item{Key: long, Weight: -1}, api.ErrKey},
		{good, api.Item{Key: "a"}, api.ErrRange},
		{good, api.Item{Key: "a", Weight: -1}, api.ErrRange},
		{good, api.Item{Key: "a", Weight: mostOf + 1}, api.ErrRange},
		{shape, api.Item{Key: "a", Weight: 1}, api.ErrShape},
		{shape, api.Item{}, api.ErrShape},
		{shape, api.Item{Key: "a"}, api.ErrShape},
		{full, api.Item{Key: "a", Weight: 1}, api.ErrRange},
		{full, api.Item{Weight: 1}, api.ErrRange},
		{api.LogLog{}, api.Item{}, api.ErrRange},
	} {
		if d, e := Insert(x.l, x.item); e != x.want || !isZero(d) {
			t.Errorf("Insert(%v, %v) = %v, %d; want error %d", x.l, x.item, d, e, x.want)
		}
	}
	for _, bad := range badSketches() {
		if d, e := Insert(bad, api.Item{}); e != Validate(bad) || !isZero(d) {
			t.Errorf("Insert(%v, zero item) = %v, %d", bad, d, e)
		}
	}
}

func TestMerge(t *testing.T) {
	for precision := least; precision <= most; precision++ {
		a := sketchOf(precision, 1<<63+1)
		b := sketchOf(precision, 1<<63+1)
		slices.Reverse(b.Registers)
		want := api.LogLog{Precision: precision, Seed: a.Seed}
		for i, r := range a.Registers {
			want.Registers = append(want.Registers, max(r, b.Registers[i]))
		}
		if c, e := Merge(a, b); e != api.OK || !same(c, want) {
			t.Errorf("Merge(%v, %v) = %v, %d; want %v", a, b, c, e, want)
		}
		if c, e := Merge(b, a); e != api.OK || !same(c, want) {
			t.Errorf("Merge(%v, %v) = %v, %d; want %v", b, a, c, e, want)
		}
		if c, e := Merge(a, a); e != api.OK || !same(c, a) {
			t.Errorf("Merge(%v, itself) = %v, %d", a, c, e)
		}
	}
}

func TestMergeOfEachRegister(t *testing.T) {
	for i := range 8 {
		for _, x := range [][3]int{{0, 0, 0}, {0, 1, 1}, {1, 2, 2}, {9, 10, 10}, {0, 62, 62}, {61, 62, 62}, {62, 62, 62}, {30, 30, 30}} {
			plain := api.LogLog{Precision: 3, Seed: 9, Registers: slices.Repeat([]int{5}, 8)}
			a, b, want := withRegister(plain, i, x[0]), withRegister(plain, i, x[1]), withRegister(plain, i, x[2])
			if c, e := Merge(a, b); e != api.OK || !same(c, want) {
				t.Errorf("Merge(%v, %v) = %v, %d; want %v", a, b, c, e, want)
			}
			if c, e := Merge(b, a); e != api.OK || !same(c, want) {
				t.Errorf("Merge(%v, %v) = %v, %d; want %v", b, a, c, e, want)
			}
		}
	}
}

func TestMergeEqualsInsertionOfTheUnion(t *testing.T) {
	keys := append(keysOf(40), "k1", "k2", "k39", "a", "k0")
	for precision := least; precision <= most; precision++ {
		for split := range len(keys) + 1 {
			all, _ := New(precision, 21)
			left, right := all, all
			for i, key := range keys {
				item := api.Item{Key: key, Weight: i + 1}
				all, _ = Insert(all, item)
				if i < split {
					left, _ = Insert(left, item)
				} else {
					right, _ = Insert(right, item)
				}
			}
			if c, e := Merge(left, right); e != api.OK || !same(c, all) {
				t.Errorf("Merge(%v, %v) = %v, %d; want %v", left, right, c, e, all)
			}
			if c, e := Merge(right, left); e != api.OK || !same(c, all) {
				t.Errorf("Merge(%v, %v) = %v, %d; want %v", right, left, c, e, all)
			}
		}
	}
}

func TestMergeIsAssociative(t *testing.T) {
	var l []api.LogLog
	for _, n := range []int{0, 1, 2, 31, 62, 63} {
		for _, r := range []int{0, 7} {
			l = append(l, api.LogLog{Precision: 2, Seed: 3, Registers: []int{n, r, 63 - n, 5}})
		}
	}
	for _, a := range l {
		for _, b := range l {
			ab, _ := Merge(a, b)
			for _, c := range l {
				bc, _ := Merge(b, c)
				left, e := Merge(ab, c)
				right, f := Merge(a, bc)
				if e != api.OK || f != api.OK || !same(left, right) {
					t.Errorf("%v, %v and %v give %v and %v", a, b, c, left, right)
				}
			}
		}
	}
}

func TestErrorsOfMerge(t *testing.T) {
	good, _ := New(3, 7)
	shape := api.LogLog{Precision: 3, Seed: 7}
	full := api.LogLog{Precision: 2, Registers: []int{0, 0, 0, 64}}
	for _, x := range []struct {
		a, b api.LogLog
		want api.Errno
	}{
		{good, shape, api.ErrShape},
		{shape, good, api.ErrShape},
		{shape, full, api.ErrShape},
		{full, shape, api.ErrRange},
		// Invalid sketches come before different kinds.
		{good, full, api.ErrRange},
		{full, good, api.ErrRange},
		{good, api.LogLog{}, api.ErrRange},
		{api.LogLog{}, api.LogLog{}, api.ErrRange},
		{good, api.LogLog{Precision: 2, Seed: 7, Registers: make([]int, 4)}, api.ErrKind},
		{good, api.LogLog{Precision: 4, Seed: 7, Registers: make([]int, 16)}, api.ErrKind},
		{good, api.LogLog{Precision: 3, Seed: 8, Registers: make([]int, 8)}, api.ErrKind},
		{good, api.LogLog{Precision: 3, Seed: 7 + 1<<63, Registers: make([]int, 8)}, api.ErrKind},
		{good, api.LogLog{Precision: 8, Seed: 9, Registers: make([]int, 256)}, api.ErrKind},
	} {
		if c, e := Merge(x.a, x.b); e != x.want || !isZero(c) {
			t.Errorf("Merge(%v, %v) = %v, %d; want error %d", x.a, x.b, c, e, x.want)
		}
		if x.want == api.ErrKind {
			if c, e := Merge(x.b, x.a); e != x.want || !isZero(c) {
				t.Errorf("Merge(%v, %v) = %v, %d; want error %d", x.b, x.a, c, e, x.want)
			}
		}
	}
	for _, bad := range badSketches() {
		if c, e := Merge(good, bad); e != Validate(bad) || !isZero(c) {
			t.Errorf("Merge(%v, %v) = %v, %d", good, bad, c, e)
		}
		if c, e := Merge(bad, good); e != Validate(bad) || !isZero(c) {
			t.Errorf("Merge(%v, %v) = %v, %d", bad, good, c, e)
		}
	}
}

// The estimates of this test were computed outside of the program.
func TestEstimate(t *testing.T) {
	for _, x := range []struct {
		precision int
		of        [5]int // with all registers 1, 2, 10, 20 and 33
		keys      [3]int // with seed 9 and the first 1, 100 and 1000 keys
	}{
		{2, [5]int{4, 8, 2215, 2269118, 18588618457}, [3]int{2, 138, 1611}},
		{3, [5]int{10, 20, 5136, 5259657, 43087111913}, [3]int{5, 238, 1284}},
		{4, [5]int{21, 43, 11026, 11291066, 92496415686}, [3]int{11, 222, 1495}},
		{5, [5]int{44, 89, 22839, 23387439, 191589901139}, [3]int{22, 167, 1162}},
		{6, [5]int{90, 181, 46465, 47580184, 389776872046}, [3]int{45, 128, 1104}},
		{7, [5]int{183, 366, 93751, 96001914, 786447681999}, [3]int{91, 148, 1143}},
		{8, [5]int{367, 735, 188290, 192809403, mostTotal}, [3]int{184, 235, 973}},
	} {
		for i, r := range []int{1, 2, 10, 20, 33} {
			l := api.LogLog{Precision: x.precision, Registers: slices.Repeat([]int{r}, 1<<x.precision)}
			if n, e := Estimate(l); n != x.of[i] || e != api.OK {
				t.Errorf("Estimate(%v) = %d, %d; want %d", l, n, e, x.of[i])
			}
		}
		l, _ := New(x.precision, 9)
		if n, e := Estimate(l); n != 0 || e != api.OK {
			t.Errorf("Estimate of no keys = %d, %d", n, e)
		}
		for i, key := range keysOf(1000) {
			l, _ = Insert(l, api.Item{Key: key, Weight: 5})
			if at := slices.Index([]int{1, 100, 1000}, i+1); at >= 0 {
				if n, e := Estimate(l); n != x.keys[at] || e != api.OK {
					t.Errorf("Estimate of %d keys with precision %d = %d, %d; want %d", i+1, x.precision, n, e, x.keys[at])
				}
			}
		}
	}
}

func TestEstimateOfEachRegister(t *testing.T) {
	for precision := least; precision <= most; precision++ {
		size := 1 << precision
		for r := range 66 - precision {
			l := api.LogLog{Precision: precision, Seed: 3, Registers: slices.Repeat([]int{r}, size)}
			checkEstimate(t, l)
			for other := range 66 - precision {
				checkEstimate(t, withRegister(l, 0, other))
				checkEstimate(t, withRegister(l, size-1, other))
			}
			for i := range l.Registers {
				l.Registers[i] = i % (r + 1)
			}
			checkEstimate(t, l)
		}
		checkEstimate(t, sketchOf(precision, 3))
	}
}

// checkEstimate compares Estimate with P8.4 on numbers of any size.
func checkEstimate(t *testing.T, l api.LogLog) {
	if n, e := Estimate(l); n != estimated(l) || e != api.OK {
		t.Errorf("Estimate(%v) = %d, %d; want %d", l, n, e, estimated(l))
	}
}

// The sums of this test are as small as registers of both kinds make them, so
// that the estimate comes to both sides of its limit.
func TestEstimateNearItsLimit(t *testing.T) {
	for precision := least; precision <= most; precision++ {
		size := 1 << precision
		for high := 30; high <= 65-precision; high++ {
			for low := 25; low <= 65-precision; low++ {
				l := api.LogLog{Precision: precision, Registers: slices.Repeat([]int{high}, size)}
				for i := range 4 {
					copy(l.Registers, slices.Repeat([]int{low}, (i+1)*size/4))
					checkEstimate(t, l)
				}
			}
		}
	}
}

func TestErrorsOfEstimate(t *testing.T) {
	for _, bad := range badSketches() {
		if n, e := Estimate(bad); n != 0 || e != Validate(bad) {
			t.Errorf("Estimate(%v) = %d, %d", bad, n, e)
		}
	}
}

func TestEncode(t *testing.T) {
	for _, x := range []struct {
		l    api.LogLog
		want []byte
	}{
		{api.LogLog{Precision: 2, Registers: []int{0, 0, 0, 0}}, []byte{2, 0, 0, 0, 0, 0, 0, 0, 0, 0, 0, 0, 0}},
		{
			api.LogLog{Precision: 2, Seed: 0x0102030405060708, Registers: []int{63, 1, 0, 62}},
			[]byte{2, 1, 2, 3, 4, 5, 6, 7, 8, 63, 1, 0, 62},
		},
		{
			api.LogLog{Precision: 3, Seed: math.MaxUint64, Registers: []int{1, 2, 3, 4, 5, 6, 7, 62}},
			[]byte{3, 255, 255, 255, 255, 255, 255, 255, 255, 1, 2, 3, 4, 5, 6, 7, 62},
		},
	} {
		if b, e := Encode(x.l); e != api.OK || !bytes.Equal(b, x.want) {
			t.Errorf("Encode(%v) = %v, %d; want %v", x.l, b, e, x.want)
		}
		if l, e := Decode(x.want); e != api.OK || !same(l, x.l) {
			t.Errorf("Decode(%v) = %v, %d; want %v", x.want, l, e, x.l)
		}
	}
	for _, bad := range badSketches() {
		if b, e := Encode(bad); e != Validate(bad) || len(b) > 0 {
			t.Errorf("Encode(%v) = %v, %d", bad, b, e)
		}
	}
}

func TestEncodeOfEachPrecision(t *testing.T) {
	for precision := least; precision <= most; precision++ {
		for r := range 66 - precision {
			l := withRegister(sketchOf(precision, uint64(precision)<<60|7), 1<<precision-1, r)
			want := joined(l)
			if b, e := Encode(l); e != api.OK || !bytes.Equal(b, want) {
				t.Errorf("Encode(%v) = %v, %d; want %v", l, b, e, want)
			}
			if again, e := Decode(want); e != api.OK || !same(again, l) {
				t.Errorf("Decode(%v) = %v, %d; want %v", want, again, e, l)
			}
		}
	}
}

func TestDecodeRefuses(t *testing.T) {
	for _, b := range [][]byte{
		nil,
		{2},
		{2, 0, 0, 0, 0, 0, 0, 0},
		join(0, 0, 0),
		join(1, 0, 0, 0),
		join(9, 0, make([]int, 512)...),
		join(247, 0, 0),
		// Too few and too many registers.
		join(2, 0),
		join(2, 0, 1, 2, 3),
		join(2, 0, 1, 2, 3, 4, 5),
		join(3, 0, 1, 2, 3, 4),
		join(8, 0, make([]int, 255)...),
		join(8, 0, make([]int, 257)...),
		join(8, 0, make([]int, 1000)...),
		// Registers out of range.
		join(2, 0, 64, 0, 0, 0),
		join(2, 0, 0, 0, 0, 64),
		join(2, 0, 0, 255, 0, 0),
		join(3, 0, 63, 0, 0, 0, 0, 0, 0, 0),
		join(8, 0, slices.Repeat([]int{58}, 256)...),
		// A precision that wire.EncodeUint does not write in this way.
		append([]byte{248}, join(2, 0, 0, 0, 0, 0)...),
		append([]byte{249, 0}, join(2, 0, 0, 0, 0, 0)...),
		append([]byte{255, 0, 0, 0, 0, 0, 0, 0}, join(2, 0, 0, 0, 0, 0)...),
		// Precisions of several bytes, one above the limit of EncodeUint.
		append([]byte{249, 1}, join(2, 0, 0, 0, 0, 0)...),
		append([]byte{255, 127, 0, 0, 0, 0, 0, 0}, join(2, 0, 0, 0, 0, 0)...),
		bytes.Repeat([]byte{0}, 13),
		bytes.Repeat([]byte{1}, 1000),
		bytes.Repeat([]byte{255}, 1000),
	} {
		if l, e := Decode(b); e != api.ErrForm || !isZero(l) {
			t.Errorf("Decode(%v) = %v, %d", b, l, e)
		}
	}
}

func TestDecodeOfChangedLists(t *testing.T) {
	for precision := least; precision <= most; precision++ {
		b := joined(sketchOf(precision, 0xf8f9fafbfcfdfeff))
		for i := range b {
			// The missing bytes still follow, as spare capacity.
			if l, e := Decode(b[:i]); e != api.ErrForm || !isZero(l) {
				t.Errorf("Decode(%v) = %v, %d", b[:i], l, e)
			}
		}
		for _, x := range []byte{0, 1, 248, 255} {
			if l, e := Decode(append(slices.Clone(b), x)); e != api.ErrForm || !isZero(l) {
				t.Errorf("Decode(%v and %d) = %v, %d", b, x, l, e)
			}
		}
		for i := range b {
			for x := range 256 {
				changed := slices.Clone(b)
				changed[i] = byte(x)
				checkExact(t, changed)
			}
		}
	}
}

// checkExact checks that Decode finds the sketch whose encoding is b exactly if
// there is one.
func checkExact(t *testing.T, b []byte) {
	precision := int(b[0])
	good := precision >= least && precision <= most && len(b) == 9+1<<precision
	if good {
		good = slices.Max(b[9:]) <= byte(65-precision)
	}
	l, e := Decode(b)
	if !good {
		if e != api.ErrForm || !isZero(l) {
			t.Errorf("Decode(%v) = %v, %d", b, l, e)
		}
		return
	}
	if e != api.OK || Validate(l) != api.OK || !bytes.Equal(joined(l), b) {
		t.Errorf("Decode(%v) = %v, %d", b, l, e)
	}
}

// guard lists registers with spare capacity, so that a change of either shows.
func guard(l api.LogLog) (guarded api.LogLog, all []int) {
	all = append(slices.Clone(l.Registers), 41, 42, 43)
	l.Registers = all[:len(l.Registers)]
	return l, all
}

func TestArgumentsAreNotChanged(t *testing.T) {
	for precision := least; precision <= most; precision++ {
		plain := sketchOf(precision, 8)
		l, all := guard(plain)
		before := slices.Clone(all)
		other, otherAll := guard(plain)
		grown, _ := Insert(l, api.Item{Key: "a", Weight: 1})
		merged, _ := Merge(l, other)
		Estimate(l)
		Encode(l)
		for _, d := range []api.LogLog{grown, merged} {
			clear(d.Registers[:cap(d.Registers)])
		}
		if !slices.Equal(all, before) || !slices.Equal(otherAll, before) {
			t.Errorf("the registers %v became %v and %v", before, all, otherAll)
		}
	}
}

func TestResultsAreNotShared(t *testing.T) {
	first, _ := New(2, 3)
	clear(first.Registers[:cap(first.Registers)])
	first.Registers[0] = 5
	if second, _ := New(2, 3); second.Registers[0] != 0 {
		t.Errorf("New = %v after a change of an earlier result", second)
	}
	l := sketchOf(3, 4)
	want := joined(l)
	b, _ := Encode(l)
	clear(b[:cap(b)])
	wide := append(slices.Clone(want), 9, 9, 9)
	kept := slices.Clone(wide)
	d, e := Decode(wide[:len(want)])
	if e != api.OK || !same(d, l) || !bytes.Equal(wide, kept) {
		t.Errorf("Decode with spare capacity is %v, %d", d, e)
	}
	if again, _ := Encode(l); !bytes.Equal(again, want) {
		t.Errorf("Encode(%v) = %v after a change of an earlier result", l, again)
	}
}
