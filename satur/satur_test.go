package satur

import (
	"math"
	"math/big"
	"slices"
	"testing"

	"sketchstore/api"
)

// edges are the numbers at which sums, products and quotients could go wrong.
func edges() []int {
	l := []int{math.MinInt, math.MinInt + 1, -1 << 32, -5, -2, -1, 0, 1, 2, 3, 4, 5, 6, 7, 10, 41, 42, 43, 1000003, math.MaxInt - 1, math.MaxInt}
	for _, shift := range []int{31, 32, 33, 40, 61, 62} {
		l = append(l, 1<<shift-1, 1<<shift, 1<<shift+1)
	}
	return l
}

// natural is n as an exact number, where a negative one counts as 0.
func natural(n int) *big.Int {
	return big.NewInt(int64(max(n, 0)))
}

// limited is what P1.1 says about an exact sum or product.
func limited(exact *big.Int, most int) (int, bool) {
	if exact.Cmp(natural(most)) > 0 {
		return max(most, 0), true
	}
	return int(exact.Int64()), false
}

func TestAddLimitsTheSum(t *testing.T) {
	for _, x := range []struct {
		a, b, most, n int
		full          bool
	}{
		{3, 4, 5, 5, true},
		{3, 4, 6, 6, true},
		{3, 4, 7, 7, false},
		{3, 4, 8, 7, false},
		{0, 0, 0, 0, false},
		{0, 1, 0, 0, true},
		{-3, 4, 4, 4, false},
		{4, -3, 4, 4, false},
		{-3, 4, 3, 3, true},
		{-3, -4, 5, 0, false},
		{3, 4, -1, 0, true},
		{0, 0, -1, 0, false},
		{-1, -1, -2, 0, false},
		{math.MaxInt, 1, math.MaxInt, math.MaxInt, true},
		{math.MaxInt, 1, 5, 5, true},
		{math.MaxInt, math.MaxInt, math.MaxInt, math.MaxInt, true},
		{math.MaxInt, 0, math.MaxInt, math.MaxInt, false},
		{math.MaxInt, math.MinInt, math.MaxInt, math.MaxInt, false},
		{math.MaxInt - 1, 1, math.MaxInt, math.MaxInt, false},
		{math.MinInt, math.MinInt, math.MinInt, 0, false},
		{api.MaxCount - 1, 1, api.MaxCount, api.MaxCount, false},
		{api.MaxCount, 1, api.MaxCount, api.MaxCount, true},
	} {
		if n, full := Add(x.a, x.b, x.most); n != x.n || full != x.full {
			t.Errorf("Add(%d, %d, %d) = %d, %v; want %d, %v", x.a, x.b, x.most, n, full, x.n, x.full)
		}
	}
}

func TestMulLimitsTheProduct(t *testing.T) {
	for _, x := range []struct {
		a, b, most, n int
		full          bool
	}{
		{6, 7, 41, 41, true},
		{6, 7, 42, 42, false},
		{6, 7, 43, 42, false},
		{0, math.MaxInt, 0, 0, false},
		{math.MaxInt, 0, math.MaxInt, 0, false},
		{-5, 5, 9, 0, false},
		{5, -5, 9, 0, false},
		{-5, -5, 30, 0, false},
		{5, 5, -1, 0, true},
		{0, 5, -1, 0, false},
		{math.MinInt, math.MinInt, math.MaxInt, 0, false},
		{1 << 40, 1 << 40, 1 << 50, 1 << 50, true},
		{1 << 32, 1 << 32, math.MaxInt, math.MaxInt, true},
		{1 << 32, 1 << 31, math.MaxInt, math.MaxInt, true},
		{1 << 31, 1 << 31, math.MaxInt, 1 << 62, false},
		{math.MaxInt, 1, math.MaxInt, math.MaxInt, false},
		{math.MaxInt, 2, math.MaxInt, math.MaxInt, true},
		{math.MaxInt, math.MaxInt, math.MaxInt, math.MaxInt, true},
	} {
		if n, full := Mul(x.a, x.b, x.most); n != x.n || full != x.full {
			t.Errorf("Mul(%d, %d, %d) = %d, %v; want %d, %v", x.a, x.b, x.most, n, full, x.n, x.full)
		}
	}
}

func TestAddAndMulAreExactAtAllEdges(t *testing.T) {
	for _, a := range edges() {
		for _, b := range edges() {
			sum := new(big.Int).Add(natural(a), natural(b))
			product := new(big.Int).Mul(natural(a), natural(b))
			for _, most := range edges() {
				want, wantFull := limited(sum, most)
				if n, full := Add(a, b, most); n != want || full != wantFull {
					t.Errorf("Add(%d, %d, %d) = %d, %v; want %d, %v", a, b, most, n, full, want, wantFull)
				}
				want, wantFull = limited(product, most)
				if n, full := Mul(a, b, most); n != want || full != wantFull {
					t.Errorf("Mul(%d, %d, %d) = %d, %v; want %d, %v", a, b, most, n, full, want, wantFull)
				}
			}
		}
	}
}

func TestMulDivRoundsDown(t *testing.T) {
	for _, x := range []struct {
		a, b, c, n int
		e          api.Errno
	}{
		{7, 3, 2, 10, api.OK},
		{7, 3, 7, 3, api.OK},
		{2, 3, 7, 0, api.OK},
		{0, 0, 1, 0, api.OK},
		{0, math.MaxInt, math.MaxInt, 0, api.OK},
		{1 << 60, 6, 4, 3 << 59, api.OK},
		{math.MaxInt, 1, 2, 1<<62 - 1, api.OK},
		{1 << 62, 1, 1, 1 << 62, api.OK},
		{1 << 62, 5, 5, 1 << 62, api.OK},
		{1<<62 + 1, 1, 1, 0, api.ErrRange},
		{1<<62 + 1, 2, 2, 0, api.ErrRange},
		// The exact quotient is above 2^62, but the rounded one is not.
		{1<<62 + 1, math.MaxInt - 1, math.MaxInt, 1 << 62, api.OK},
		{1 << 62, 5, 4, 0, api.ErrRange},
		{math.MaxInt, 1, 1, 0, api.ErrRange},
		{math.MaxInt, math.MaxInt, math.MaxInt, 0, api.ErrRange},
		{math.MaxInt, math.MaxInt, 1, 0, api.ErrRange},
		{1 << 32, 1 << 32, 1, 0, api.ErrRange},
		{1 << 32, 1 << 32, 2, 0, api.ErrRange},
		{1 << 32, 1 << 32, 4, 1 << 62, api.OK},
		{-1, 1, 1, 0, api.ErrRange},
		{1, -1, 1, 0, api.ErrRange},
		{-1, -1, 1, 0, api.ErrRange},
		{-1, 0, 1, 0, api.ErrRange},
		{1, 1, 0, 0, api.ErrRange},
		{1, 1, -1, 0, api.ErrRange},
		{0, 0, 0, 0, api.ErrRange},
		{math.MinInt, math.MinInt, math.MinInt, 0, api.ErrRange},
	} {
		if n, e := MulDiv(x.a, x.b, x.c); n != x.n || e != x.e {
			t.Errorf("MulDiv(%d, %d, %d) = %d, %d; want %d, %d", x.a, x.b, x.c, n, e, x.n, x.e)
		}
	}
}

// exactMulDiv is P1.2 with numbers of any length.
func exactMulDiv(a, b, c int) (int, api.Errno) {
	if a < 0 || b < 0 || c < 1 {
		return 0, api.ErrRange
	}
	n := new(big.Int).Mul(natural(a), natural(b))
	n.Div(n, natural(c))
	if n.Cmp(big.NewInt(1<<62)) > 0 {
		return 0, api.ErrRange
	}
	return int(n.Int64()), api.OK
}

func TestMulDivIsExactAtAllEdges(t *testing.T) {
	for _, a := range edges() {
		for _, b := range edges() {
			for _, c := range edges() {
				want, wantErr := exactMulDiv(a, b, c)
				if n, e := MulDiv(a, b, c); n != want || e != wantErr {
					t.Errorf("MulDiv(%d, %d, %d) = %d, %d; want %d, %d", a, b, c, n, e, want, wantErr)
				}
			}
		}
	}
}

func TestCeilDivRoundsUp(t *testing.T) {
	for _, x := range []struct {
		a, b, n int
		e       api.Errno
	}{
		{7, 2, 4, api.OK},
		{8, 2, 4, api.OK},
		{9, 2, 5, api.OK},
		{1, 5, 1, api.OK},
		{0, 5, 0, api.OK},
		{0, math.MaxInt, 0, api.OK},
		{1, math.MaxInt, 1, api.OK},
		{math.MaxInt, 1, math.MaxInt, api.OK},
		{math.MaxInt, 2, 1 << 62, api.OK},
		{math.MaxInt, math.MaxInt - 1, 2, api.OK},
		{math.MaxInt, math.MaxInt, 1, api.OK},
		{math.MaxInt - 1, math.MaxInt, 1, api.OK},
		{-1, 2, 0, api.ErrRange},
		{math.MinInt, 1, 0, api.ErrRange},
		{1, 0, 0, api.ErrRange},
		{0, 0, 0, api.ErrRange},
		{1, -1, 0, api.ErrRange},
		{math.MinInt, -1, 0, api.ErrRange},
		{1, math.MinInt, 0, api.ErrRange},
	} {
		if n, e := CeilDiv(x.a, x.b); n != x.n || e != x.e {
			t.Errorf("CeilDiv(%d, %d) = %d, %d; want %d, %d", x.a, x.b, n, e, x.n, x.e)
		}
	}
}

func TestLeadingZerosCountsAboveTheHighestBit(t *testing.T) {
	if n := LeadingZeros(0); n != 64 {
		t.Errorf("LeadingZeros(0) = %d", n)
	}
	for i := range 64 {
		single := uint64(1) << i
		// Lower bits do not matter.
		for _, x := range []uint64{single, single | 1, single | single>>1, single | (single - 1)} {
			if n := LeadingZeros(x); n != 63-i {
				t.Errorf("LeadingZeros(%#x) = %d; want %d", x, n, 63-i)
			}
		}
	}
}

func TestPowers(t *testing.T) {
	for _, x := range []struct {
		n int
		l []int
	}{
		{1, []int{0}},
		{2, []int{1}},
		{3, []int{0, 1}},
		{6, []int{1, 2}},
		{10, []int{1, 3}},
		{1<<40 + 1, []int{0, 40}},
		{1 << 62, []int{62}},
		{1<<62 + 1<<61 + 8, []int{3, 61, 62}},
		{0, nil},
		{-1, nil},
		{-6, nil},
		{math.MinInt, nil},
	} {
		if l := Powers(x.n); !slices.Equal(l, x.l) {
			t.Errorf("Powers(%d) = %v; want %v", x.n, l, x.l)
		}
	}
}

func TestPowersAscendAndSumUp(t *testing.T) {
	l := slices.DeleteFunc(edges(), func(n int) bool { return n < 0 })
	for n := range 300 {
		l = append(l, n)
	}
	for _, n := range l {
		sum, last := 0, -1
		for _, k := range Powers(n) {
			if k <= last {
				t.Fatalf("Powers(%d) does not ascend: %v", n, Powers(n))
			}
			sum, last = sum+1<<k, k
		}
		if sum != n {
			t.Errorf("Powers(%d) = %v, whose sum is %d", n, Powers(n), sum)
		}
	}
}

func TestPowersSharesNoMemory(t *testing.T) {
	first := Powers(6)
	for i := range first {
		first[i] = -1
	}
	if l := Powers(6); !slices.Equal(l, []int{1, 2}) {
		t.Errorf("Powers(6) = %v after a change of an earlier result", l)
	}
}
