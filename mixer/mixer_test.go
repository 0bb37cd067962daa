package mixer

import (
	"math"
	"math/bits"
	"slices"
	"strings"
	"testing"

	"sketchstore/api"
)

// The constants of the chapter, written once more so that a wrong one shows.
const (
	golden    = 0x9e3779b97f4a7c15
	rowFactor = 0xd1342543de82ef95
	hashPrime = 0x100000001b3
)

// everyByte returns the 256 bytes in ascending order.
func everyByte() string {
	l := make([]byte, 256)
	for i := range l {
		l[i] = byte(i)
	}
	return string(l)
}

// slowHash is P2.3 with whole numbers as indexes and two shifts as rotation.
func slowHash(table []uint64, key string) uint64 {
	h := table[len(key)%256]
	for i := 0; i < len(key); i++ {
		h = h<<5 | h>>59
		h ^= table[(int(key[i])+i)%256]
		h *= hashPrime
	}
	return Mix(h)
}

func TestMix(t *testing.T) {
	for _, x := range []struct{ x, y uint64 }{
		{0, 0},
		{1, 0x5692161d100b05e5},
		{2, 0xdbd238973a2b148a},
		{0x80000000, 0xec105bf588587c9f},
		{1 << 62, 0x12e13752bce754c5},
		{1 << 63, 0x25c26ea579cea98a},
		{math.MaxUint64, 0xb4d055fcf2cbbd7b},
		{golden, 0xe220a8397b1dcdaf},
		{0x0123456789abcdef, 0xb2c058e4ebb5112c},
	} {
		if y := Mix(x.x); y != x.y {
			t.Errorf("Mix(%#x) = %#x; want %#x", x.x, y, x.y)
		}
	}
}

// unmix undoes the steps of P2.1, the last one first.
func unmix(y uint64) uint64 {
	y ^= y>>31 ^ y>>62
	y *= inverse(0x94d049bb133111eb)
	y ^= y>>27 ^ y>>54
	y *= inverse(0xbf58476d1ce4e5b9)
	return y ^ y>>30 ^ y>>60
}

// inverse returns the number whose product with the odd number a is 1.
func inverse(a uint64) uint64 {
	n := a
	for range 6 {
		n *= 2 - a*n
	}
	return n
}

func TestMixCanBeUndone(t *testing.T) {
	for i := range 64 {
		for j := range 64 {
			x := uint64(1)<<i - uint64(1)<<j
			if y := unmix(Mix(x)); y != x {
				t.Errorf("Mix(%#x) is undone to %#x", x, y)
			}
		}
	}
}

func TestTable(t *testing.T) {
	for _, x := range []struct {
		seed  uint64
		words map[int]uint64
	}{
		{0, map[int]uint64{0: 0xe220a8397b1dcdaf, 1: 0x6e789e6aa1b965f4, 2: 0x06c45d188009454f, 127: 0x12d05c4045a39c19, 255: 0x5a5832bb47bcf19e}},
		{1, map[int]uint64{0: 0x910a2dec89025cc1, 1: 0xbeeb8da1658eec67, 255: 0x20933f9b9211242a}},
		{1234567, map[int]uint64{0: 0x599ed017fb08fc85, 1: 0x2c73f08458540fa5, 254: 0x6819b04aec9eae3e}},
		{1 << 63, map[int]uint64{0: 0x481ec0a212a9f3db, 255: 0xb35668ea00fad87f}},
		{math.MaxUint64, map[int]uint64{0: 0xe4d971771b652c20, 2: 0x382ff84cb27281e9, 255: 0x3608232f0c5ef258}},
	} {
		table := Table(x.seed)
		if len(table) != 256 {
			t.Fatalf("Table(%#x) has %d words", x.seed, len(table))
		}
		for i, want := range x.words {
			if table[i] != want {
				t.Errorf("word %d of Table(%#x) is %#x; want %#x", i, x.seed, table[i], want)
			}
		}
	}
}

func TestTableMixesSteppedSeeds(t *testing.T) {
	for _, seed := range []uint64{0, 1, 7, 1 << 32, math.MaxUint64 - 255, math.MaxUint64} {
		for i, word := range Table(seed) {
			if want := Mix(seed + (uint64(i)+1)*golden); word != want {
				t.Errorf("word %d of Table(%#x) is %#x; want %#x", i, seed, word, want)
			}
		}
	}
	// The last word of this table is Mix(0).
	step := uint64(golden)
	if table := Table(-(256 * step)); table[255] != 0 {
		t.Errorf("the sum of seed and steps does not wrap around: %#x", table[255])
	}
}

func TestTableSharesNoMemory(t *testing.T) {
	want := Table(3)
	first := Table(3)
	clear(first)
	if !slices.Equal(Table(3), want) {
		t.Error("Table(3) differs after a change of an earlier result")
	}
}

func TestRow(t *testing.T) {
	for _, x := range []struct {
		seed uint64
		row  int
		want uint64
	}{
		{0, 0, 0xad53d5472392edec},
		{0, 1, 0xbdbdf2ec8090b8f0},
		{5, 0, 0x505499eb5dea363e},
		{5, 1, 0x48c16ca292bfa785},
		{5, 7, 0x2a2528143ce41486},
		{math.MaxUint64, 3, 0xeb95c8e4b7a9916f},
		// Row -1 has the factor 0, so that the seed is only mixed.
		{0, -1, 0},
		{5, -1, 0xb6bf613dbebb45dc},
		{5, -2, 0xf2e88e9b7ba408e8},
		{5, math.MaxInt, 0x4c90c93f432d261a},
		{5, math.MinInt, 0x70318405d7ea2923},
		{rowFactor, 0, 0},
	} {
		if y := Row(x.seed, x.row); y != x.want {
			t.Errorf("Row(%#x, %d) = %#x; want %#x", x.seed, x.row, y, x.want)
		}
	}
}

func TestHash(t *testing.T) {
	for _, x := range []struct {
		key        string
		zero, more uint64 // the hashes under the seeds 0 and 42
	}{
		{"", 0x48218226ff3cd4bf, 0xb29ed950786f5ae3},
		{"a", 0xefcb0691237a9bed, 0xbd127b07c2366b6d},
		{"b", 0xad550adc92585949, 0x069871061fc4c860},
		{"ab", 0x8d9585147d084c2f, 0x6df323ab23e5ba64},
		{"ba", 0xd4d8a5f3ceefb025, 0x644ec6d58dcb2c84},
		{"a b", 0x9a39371a3a06714a, 0xe4a946d811c8c2cf},
		{"key", 0x3d7235b7f25d0ce4, 0x6b564a53e3d3326b},
		{"\x00", 0x3d85eaeff5ce65e8, 0xe3ae453eabc7a857},
		{"\x00\x00", 0xca4072e1a5830fd8, 0x2f0475f67242b019},
		{"\xff", 0x6e81261c90c33323, 0xd427b544c70db882},
		// The second byte takes the word (255 + 1) mod 256.
		{"\xff\xff", 0xf9fd69e7990bf3c1, 0x0582936fe11c2c81},
		// Bytes count, not characters; they need not be UTF-8.
		{"\u00e9", 0x686bc1aaa8917731, 0x35e570be40852895},
		{"\xff\xfe\x80", 0x2a3fa9ee142c789c, 0x62aeef461334a9ee},
		// The length and the index of a byte count modulo 256.
		{strings.Repeat("x", 255), 0x81102ac110c04c5c, 0xfb319b454633fb2b},
		{strings.Repeat("x", 256), 0xa139711e0e3a4e14, 0x4869ef35fbd482fe},
		{strings.Repeat("x", 257), 0xba026f620613aa9d, 0x5d8f47131f55a2cd},
		{strings.Repeat(everyByte(), 3), 0xe3745c44213e8ad9, 0x165e0d57aa4fcd24},
	} {
		if h, e := Hash(Table(0), x.key); h != x.zero || e != api.OK {
			t.Errorf("Hash(Table(0), %q) = %#x, %d; want %#x", x.key, h, e, x.zero)
		}
		if h, e := Hash(Table(42), x.key); h != x.more || e != api.OK {
			t.Errorf("Hash(Table(42), %q) = %#x, %d; want %#x", x.key, h, e, x.more)
		}
	}
}

func TestHashTakesItsWordsFromTheTable(t *testing.T) {
	table := make([]uint64, 256)
	for i := range table {
		// No word of Table: only the place of a word shows which one was taken.
		table[i] = uint64(i) << 20
	}
	for _, key := range []string{"", "a", "abc", "\xfe\xff\x00", strings.Repeat("ab", 500), everyByte()} {
		if h, e := Hash(table, key); h != slowHash(table, key) || e != api.OK {
			t.Errorf("Hash of %q = %#x, %d; want %#x", key, h, e, slowHash(table, key))
		}
		if h, e := Hash(make([]uint64, 256), key); h != 0 || e != api.OK {
			t.Errorf("Hash of %q with a table of zeros = %#x, %d", key, h, e)
		}
	}
}

func TestHashOfEverySingleByteAndLength(t *testing.T) {
	table := Table(9)
	for i := range 256 {
		key := everyByte()[i : i+1]
		want := Mix((bits.RotateLeft64(table[1], 5) ^ table[i]) * hashPrime)
		if h, e := Hash(table, key); h != want || e != api.OK {
			t.Errorf("Hash of %q = %#x, %d; want %#x", key, h, e, want)
		}
	}
	for n := range 600 {
		key := strings.Repeat("\x9d", n)
		if h, e := Hash(table, key); h != slowHash(table, key) || e != api.OK {
			t.Errorf("Hash of a key of %d bytes = %#x, %d; want %#x", n, h, e, slowHash(table, key))
		}
	}
}

func TestHashRefusesOtherTables(t *testing.T) {
	for _, n := range []int{0, 1, 255, 257, 512} {
		// A capacity of 256 words is not a length.
		table := append(make([]uint64, 0, 1024), slices.Repeat([]uint64{7}, n)...)
		for _, key := range []string{"", "a", strings.Repeat("x", 300)} {
			if h, e := Hash(table, key); h != 0 || e != api.ErrShape {
				t.Errorf("Hash of %q with %d words = %#x, %d", key, n, h, e)
			}
		}
	}
	if h, e := Hash(nil, ""); h != 0 || e != api.ErrShape {
		t.Errorf("Hash without a table = %#x, %d", h, e)
	}
}

func TestHashLeavesItsTable(t *testing.T) {
	table := append(Table(3), 1, 2, 3)
	if _, e := Hash(table[:256], "abc"); e != api.OK {
		t.Fatal(e)
	}
	if !slices.Equal(table, append(Table(3), 1, 2, 3)) {
		t.Error("Hash changed its table")
	}
}
