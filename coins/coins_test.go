package coins

import (
	"bytes"
	"math"
	"slices"
	"strings"
	"testing"
)

// digitsOf returns the coins of a list as binary digits, by division instead
// of shifts.
func digitsOf(coins []byte) string {
	var digits strings.Builder
	for _, c := range coins {
		for value := 128; value >= 1; value /= 2 {
			digits.WriteByte('0' + c/byte(value)%2)
		}
	}
	return digits.String()
}

// bitsOf returns binary digits as numbers.
func bitsOf(digits string) []int {
	var bits []int
	for _, d := range digits {
		bits = append(bits, int(d-'0'))
	}
	return bits
}

// lists returns lists of coins of several lengths, with all bytes.
func lists() [][]byte {
	all := make([]byte, 256)
	for i := range all {
		all[i] = byte(i)
	}
	l := [][]byte{nil, {}, {0}, {0xff}, {0x80, 0x01}, {0xff, 0, 0xff}, {0, 0, 1}, {0x80, 0, 0}, {0xa5, 0x3c, 0x0f, 0x96}}
	l = append(l, bytes.Repeat([]byte{0xff}, 64), all)
	for i := range all {
		l = append(l, all[i:i+1])
	}
	return l
}

// far are positions outside of every list, among them those at which a
// product or a difference would overflow.
func far() []int {
	return []int{
		math.MinInt, math.MinInt + 1, math.MinInt / 8, -1 << 32, -1 << 31, -257, -256, -65, -64, -63, -17, -16, -15, -9, -8, -7, -2, -1,
		2048, 2049, 1 << 31, 1 << 32, 1<<61 - 1, 1 << 61, math.MaxInt/8 + 1, math.MaxInt - 7, math.MaxInt - 1, math.MaxInt,
	}
}

func TestBit(t *testing.T) {
	for _, x := range []struct {
		coins []byte
		want  string // the coins from position 0 on
	}{
		{[]byte{0x80}, "10000000"},
		{[]byte{0x01}, "00000001"},
		{[]byte{0x40}, "01000000"},
		{[]byte{0xa0}, "10100000"},
		{[]byte{0x80, 0x01}, "1000000000000001"},
		{[]byte{0x00, 0x80}, "0000000010000000"},
		{[]byte{0xff, 0x00, 0xff}, "111111110000000011111111"},
		{[]byte{0x12, 0x34, 0x56}, "000100100011010001010110"},
	} {
		for i, want := range bitsOf(x.want) {
			if n := Bit(x.coins, i); n != want {
				t.Errorf("Bit(%#x, %d) = %d; want %d", x.coins, i, n, want)
			}
		}
	}
}

func TestEachBitOfEachList(t *testing.T) {
	for _, coins := range lists() {
		for i, want := range bitsOf(digitsOf(coins)) {
			if n := Bit(coins, i); n != want {
				t.Errorf("Bit(%#x, %d) = %d; want %d", coins, i, n, want)
			}
		}
	}
}

func TestBitsOutsideTheListAreZero(t *testing.T) {
	for n := range 66 {
		coins := bytes.Repeat([]byte{0xff}, n)
		// The spare capacity does not belong to the list.
		wider := bytes.Repeat([]byte{0xff}, n+9)[:n]
		for _, i := range append(far(), 8*n, 8*n+1, 8*n+7, 8*n+8, 8*n+63) {
			if Bit(coins, i) != 0 || Bit(wider, i) != 0 {
				t.Errorf("Bit(%d bytes 0xff, %d) is not 0", n, i)
			}
		}
		if n > 0 && Bit(wider, 8*n-1) != 1 {
			t.Errorf("the last one of %d coins is 0", 8*n)
		}
	}
}

func TestPack(t *testing.T) {
	for _, x := range []struct {
		bits  []int
		coins []byte
	}{
		{nil, nil},
		{[]int{}, nil},
		{[]int{0}, []byte{0x00}},
		{[]int{1}, []byte{0x80}},
		{[]int{1, 0, 1}, []byte{0xa0}},
		{[]int{0, 0, 0, 0, 0, 0, 1}, []byte{0x02}},
		{[]int{0, 0, 0, 0, 0, 0, 0, 1}, []byte{0x01}},
		{[]int{0, 0, 0, 0, 0, 0, 0, 0}, []byte{0x00}},
		{[]int{0, 0, 0, 0, 0, 0, 0, 0, 0}, []byte{0x00, 0x00}},
		{[]int{0, 0, 0, 0, 0, 0, 0, 0, 1}, []byte{0x00, 0x80}},
		{[]int{1, 1, 1, 1, 1, 1, 1, 1, 1}, []byte{0xff, 0x80}},
		{bitsOf("0001001000110100"), []byte{0x12, 0x34}},
		{bitsOf("00010010001101001"), []byte{0x12, 0x34, 0x80}},
	} {
		if coins := Pack(x.bits); !bytes.Equal(coins, x.coins) {
			t.Errorf("Pack(%v) = %#x; want %#x", x.bits, coins, x.coins)
		}
	}
}

func TestPackTakesEveryOtherNumberForOne(t *testing.T) {
	for _, n := range []int{1, 2, 3, 4, 128, 254, 256, 512, 1 << 31, 1 << 32, math.MaxInt - 1, math.MaxInt, -1, -2, -7, -256, -1 << 32, math.MinInt + 1, math.MinInt} {
		for i := range 17 {
			bits := make([]int, 17)
			bits[i] = n
			want := "00000000" + "00000000" + "00000000"
			want = want[:i] + "1" + want[i+1:]
			if digits := digitsOf(Pack(bits)); digits != want {
				t.Errorf("Pack of %d at position %d is %s", n, i, digits)
			}
		}
	}
}

func TestPackIsShortestAndEndsWithZeros(t *testing.T) {
	for n := range 600 {
		for _, digit := range []string{"0", "1", "011", "10010"} {
			digits := strings.Repeat(digit, n)[:n]
			want := digits + strings.Repeat("0", (8-n%8)%8)
			if packed := digitsOf(Pack(bitsOf(digits))); packed != want {
				t.Errorf("Pack of %s has the coins %s", digits, packed)
			}
		}
	}
}

func TestPackOfTheBitsOfAList(t *testing.T) {
	for _, coins := range lists() {
		var bits []int
		for i := range 8 * len(coins) {
			bits = append(bits, Bit(coins, i))
		}
		if again := Pack(bits); !bytes.Equal(again, coins) {
			t.Errorf("Pack of the bits of %#x is %#x", coins, again)
		}
	}
}

func TestPackSharesNoMemory(t *testing.T) {
	bits := make([]int, 9, 20)
	bits[0], bits[8] = 3, -1
	spare := bits[:20]
	for i := 9; i < 20; i++ {
		spare[i] = 1
	}
	before := slices.Clone(spare)
	first := Pack(bits)
	clear(first)
	if second := Pack(bits); !bytes.Equal(second, []byte{0x80, 0x80}) {
		t.Errorf("Pack(%v) = %#x after a change of an earlier result", bits, second)
	}
	if !slices.Equal(spare, before) {
		t.Errorf("Pack changed its argument to %v", spare)
	}
}

func TestHeads(t *testing.T) {
	coins := []byte{0xa1, 0x00, 0xff} // 10100001 00000000 11111111
	for _, x := range []struct{ from, to, want int }{
		{0, 24, 11},
		{0, 0, 0},
		{0, 1, 1},
		{1, 2, 0},
		{1, 3, 1},
		{2, 3, 1},
		{0, 7, 2},
		{0, 8, 3},
		{7, 8, 1},
		{7, 17, 2},
		{8, 16, 0},
		{16, 17, 1},
		{17, 23, 6},
		{23, 24, 1},
		{23, 25, 1},
		{24, 25, 0},
		{24, 24, 0},
		{24, math.MaxInt, 0},
		{-1, 0, 0},
		{-1, 1, 1},
		{-8, 24, 11},
		{-8, -1, 0},
		{5, 5, 0},
		{2, 0, 0},
		{24, 0, 0},
		{1, -1, 0},
		{math.MinInt, math.MaxInt, 11},
		{math.MinInt, 0, 0},
		{math.MinInt, 1, 1},
		{23, math.MaxInt, 1},
		{math.MaxInt, math.MinInt, 0},
		{math.MaxInt, math.MaxInt, 0},
		{math.MinInt, math.MinInt, 0},
		{math.MaxInt - 1, math.MaxInt, 0},
		{math.MinInt, math.MinInt + 1, 0},
	} {
		if n := Heads(coins, x.from, x.to); n != x.want {
			t.Errorf("Heads(%#x, %d, %d) = %d; want %d", coins, x.from, x.to, n, x.want)
		}
	}
}

// headsOf is P5.3 as a count of digits of a part that is cut out.
func headsOf(coins []byte, from, to int) int {
	digits := digitsOf(coins)
	if from >= to || to <= 0 || from >= len(digits) {
		return 0
	}
	return strings.Count(digits[max(from, 0):min(to, len(digits))], "1")
}

func TestHeadsOfEachRange(t *testing.T) {
	for _, coins := range [][]byte{nil, {0}, {0x80}, {0x01}, {0xff}, {0x80, 0x01}, {0x5a, 0xc3, 0x7e}, {0xff, 0xff, 0xff, 0xff}} {
		ends := far()
		for i := -3; i < 8*len(coins)+12; i++ {
			ends = append(ends, i)
		}
		for _, from := range ends {
			for _, to := range ends {
				if n, want := Heads(coins, from, to), headsOf(coins, from, to); n != want {
					t.Errorf("Heads(%#x, %d, %d) = %d; want %d", coins, from, to, n, want)
				}
			}
		}
	}
}

func TestHeadsOfLongLists(t *testing.T) {
	coins := bytes.Repeat([]byte{0xff, 0x01}, 1000)
	for _, x := range []struct{ from, to, want int }{
		{0, 16000, 9000},
		{math.MinInt, math.MaxInt, 9000},
		{16, 32, 9},
		{8, 24, 9},
		{15999, 16001, 1},
		{15984, 20000, 9},
	} {
		if n := Heads(coins, x.from, x.to); n != x.want {
			t.Errorf("Heads(2000 bytes, %d, %d) = %d; want %d", x.from, x.to, n, x.want)
		}
	}
}

func TestHeadsIgnoresTheSpareCapacity(t *testing.T) {
	wider := bytes.Repeat([]byte{0xff}, 12)[:2]
	if n := Heads(wider, 0, 96); n != 16 {
		t.Errorf("Heads of 16 coins with spare capacity is %d", n)
	}
}

func TestListsAreNotChanged(t *testing.T) {
	for _, coins := range lists() {
		before := slices.Clone(coins)
		Bit(coins, 0)
		Bit(coins, 8*len(coins)-1)
		Heads(coins, 0, math.MaxInt)
		if !bytes.Equal(coins, before) {
			t.Errorf("the list %#x became %#x", before, coins)
		}
	}
}
