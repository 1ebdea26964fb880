package amount_test

import (
	"math"
	"math/big"
	"slices"
	"testing"

	"kedge/amount"
	"kedge/api"
)

// amounts: ordinary ones and the edges.
func amounts() []int {
	return []int{0, 1, 2, 141, 212, 999, 1000, 1001, 1 << 31, 1 << 32, api.MaxMoney / 2, api.MaxMoney/2 + 1, api.MaxMoney - 1, api.MaxMoney}
}

// noAmounts: numbers on both sides of the amounts, with such whose sums and differences wrap round to amounts.
func noAmounts() []int {
	return []int{-1, -2, -api.MaxMoney, math.MinInt, math.MinInt + 1, api.MaxMoney + 1, 1 << 62, math.MaxInt - 1, math.MaxInt}
}

func rates() []int {
	return []int{0, 1, 2, 253, 999, 1000, 1001, 1500, 1503, 99999999, api.MaxRate}
}

func noRates() []int {
	return []int{-1, -1000, math.MinInt, math.MinInt + 1, api.MaxRate + 1, 1 << 62, math.MaxInt - 1, math.MaxInt}
}

// sizes from 1 on: 0 is asked for by itself.
func sizes() []int {
	return []int{1, 2, 3, 6, 7, 113, 141, 200, 500, 999, 1000, 1001, 999999, api.MaxSize}
}

func noSizes() []int {
	return []int{-1, -1000, math.MinInt, math.MinInt + 1, api.MaxSize + 1, 1 << 62, math.MaxInt - 1, math.MaxInt}
}

// ints: all of those, so that calls can be held against the chapter's words at every mixture.
func ints() []int {
	l := slices.Concat(amounts(), noAmounts(), rates(), noRates(), sizes(), noSizes())
	slices.Sort(l)
	return slices.Compact(l)
}

func isAmount(n int) bool { return n >= 0 && n <= 2100000000000000 }
func isRate(n int) bool   { return n >= 0 && n <= 100000000 }
func isSize(n int) bool   { return n >= 0 && n <= 1000000 }

func times(a, b int) *big.Int { return new(big.Int).Mul(big.NewInt(int64(a)), big.NewInt(int64(b))) }

// divide a number that isn't below 0: rounded down, or up.
func divide(n *big.Int, by int, up bool) int {
	q, r := new(big.Int).QuoRem(n, big.NewInt(int64(by)), new(big.Int))
	if up && r.Sign() > 0 {
		q.Add(q, big.NewInt(1))
	}
	return int(q.Int64())
}

type answer struct {
	n int
	e api.Errno
}

func got(n int, e api.Errno) answer { return answer{n, e} }

// refused: beside an error the number is 0.
var refused = answer{0, api.ErrRange}

func TestGood(t *testing.T) {
	for _, a := range amounts() {
		if !amount.Good(a) {
			t.Errorf("P1.1: Good(%d) is false", a)
		}
	}
	for _, a := range noAmounts() {
		if amount.Good(a) {
			t.Errorf("P1.1: Good(%d) is true", a)
		}
	}
}

func TestAdd(t *testing.T) {
	for _, a := range ints() {
		for _, b := range ints() {
			want := refused
			if isAmount(a) && isAmount(b) && isAmount(a+b) {
				want = answer{a + b, api.OK}
			}
			if g := got(amount.Add(a, b)); g != want {
				t.Errorf("P1.1: Add(%d, %d) is %v, not %v", a, b, g, want)
			}
		}
	}
}

func TestAddExamples(t *testing.T) {
	for _, x := range []struct {
		a, b int
		want answer
	}{
		{0, 0, answer{0, 0}},
		{3, 2, answer{5, 0}},
		{api.MaxMoney, 0, answer{2100000000000000, 0}},
		{0, api.MaxMoney, answer{2100000000000000, 0}},
		{api.MaxMoney - 1, 1, answer{2100000000000000, 0}},
		{api.MaxMoney, 1, refused},
		{api.MaxMoney, api.MaxMoney, refused},
		{api.MaxMoney + 1, -1, refused},
		{-1, 1, refused},
		{1, -1, refused},
		{math.MinInt, math.MinInt, refused},
		{math.MaxInt, math.MinInt, refused},
		{1 << 62, 1 << 62, refused},
	} {
		if g := got(amount.Add(x.a, x.b)); g != x.want {
			t.Errorf("P1.1: Add(%d, %d) is %v, not %v", x.a, x.b, g, x.want)
		}
	}
}

func TestSub(t *testing.T) {
	for _, a := range ints() {
		for _, b := range ints() {
			want := refused
			if isAmount(a) && isAmount(b) && b <= a {
				want = answer{a - b, api.OK}
			}
			if g := got(amount.Sub(a, b)); g != want {
				t.Errorf("P1.1: Sub(%d, %d) is %v, not %v", a, b, g, want)
			}
		}
	}
}

func TestSubExamples(t *testing.T) {
	for _, x := range []struct {
		a, b int
		want answer
	}{
		{0, 0, answer{0, 0}},
		{3, 2, answer{1, 0}},
		{3, 3, answer{0, 0}},
		{2, 3, refused},
		{api.MaxMoney, 0, answer{2100000000000000, 0}},
		{api.MaxMoney, api.MaxMoney, answer{0, 0}},
		{api.MaxMoney + 1, 1, refused},
		{api.MaxMoney + 1, api.MaxMoney + 1, refused},
		{1, -1, refused},
		{-1, -1, refused},
		{math.MinInt, math.MaxInt, refused},
		{math.MaxInt, math.MaxInt, refused},
	} {
		if g := got(amount.Sub(x.a, x.b)); g != x.want {
			t.Errorf("P1.1: Sub(%d, %d) is %v, not %v", x.a, x.b, g, x.want)
		}
	}
}

func TestSum(t *testing.T) {
	most := []int{api.MaxMoney}
	for _, x := range []struct {
		l    []int
		want answer
	}{
		{nil, answer{0, 0}},
		{[]int{}, answer{0, 0}},
		{[]int{0}, answer{0, 0}},
		{[]int{7}, answer{7, 0}},
		{[]int{1, 2, 3}, answer{6, 0}},
		{[]int{5, 5, 5, 5}, answer{20, 0}},
		{most, answer{2100000000000000, 0}},
		{[]int{0, api.MaxMoney, 0}, answer{2100000000000000, 0}},
		{[]int{1, api.MaxMoney - 2, 1}, answer{2100000000000000, 0}},
		{[]int{api.MaxMoney, 1}, refused},
		{[]int{1, api.MaxMoney}, refused},
		{[]int{1, api.MaxMoney - 1, 1}, refused},
		{[]int{api.MaxMoney + 1}, refused},
		{[]int{-1}, refused},
		{[]int{-1, 2}, refused},
		{[]int{2, -1}, refused},
		{[]int{api.MaxMoney, 1, -1}, refused},
		{[]int{1, 2, math.MinInt}, refused},
		{[]int{math.MaxInt, 1, 2}, refused},
		{[]int{math.MinInt, math.MinInt}, refused},
		// Sums that would wrap round to an amount, if they were held against the limit only at the end.
		{[]int{1 << 62, 1 << 62, 1 << 62, 1 << 62}, refused},
		{slices.Repeat(most, 8785), refused},
		{slices.Repeat([]int{1 << 50}, 1<<14), refused},
	} {
		handed := slices.Clone(x.l)
		if g := got(amount.Sum(handed)); g != x.want {
			t.Errorf("P1.1: Sum of %d, %v is %v, not %v", len(x.l), x.l[:min(4, len(x.l))], g, x.want)
		}
		if !slices.Equal(handed, x.l) {
			t.Errorf("rule 4: Sum changed %v to %v", x.l[:min(4, len(x.l))], handed[:min(4, len(x.l))])
		}
	}
}

func TestSumReadsNothingBehindTheList(t *testing.T) {
	l := []int{1, 2, 3, -1, api.MaxMoney}
	if g := got(amount.Sum(l[:3])); g != (answer{6, 0}) {
		t.Errorf("rule 4: Sum(1, 2, 3) is %v", g)
	}
	if !slices.Equal(l, []int{1, 2, 3, -1, api.MaxMoney}) {
		t.Errorf("rule 4: what lies behind the list is %v", l)
	}
}

func TestFee(t *testing.T) {
	for _, rate := range ints() {
		for _, size := range ints() {
			want := refused
			if isRate(rate) && isSize(size) {
				want = answer{divide(times(rate, size), 1000, true), api.OK}
			}
			if g := got(amount.Fee(rate, size)); g != want {
				t.Errorf("P1.2: Fee(%d, %d) is %v, not %v", rate, size, g, want)
			}
		}
	}
}

func TestFeeExamples(t *testing.T) {
	for _, x := range []struct {
		rate, size int
		want       answer
	}{
		{1500, 141, answer{212, 0}},
		{1000, 200, answer{200, 0}},
		{1001, 1000, answer{1001, 0}},
		{1, 1, answer{1, 0}},
		{1, 999, answer{1, 0}},
		{1, 1000, answer{1, 0}},
		{1, 1001, answer{2, 0}},
		{0, 0, answer{0, 0}},
		{0, 500, answer{0, 0}},
		{1500, 0, answer{0, 0}},
		{api.MaxRate, 0, answer{0, 0}},
		{api.MaxRate, api.MaxSize, answer{100000000000, 0}},
		{api.MaxRate, 1, answer{100000, 0}},
		{1, api.MaxSize, answer{1000, 0}},
		{api.MaxRate + 1, 1, refused},
		{api.MaxRate + 1, 0, refused},
		{1, api.MaxSize + 1, refused},
		{0, api.MaxSize + 1, refused},
		{-1, 1, refused},
		{1, -1, refused},
		{-1, -1, refused},
		{math.MinInt, math.MinInt, refused},
		{math.MaxInt, 0, refused},
		{0, math.MaxInt, refused},
	} {
		if g := got(amount.Fee(x.rate, x.size)); g != x.want {
			t.Errorf("P1.2: Fee(%d, %d) is %v, not %v", x.rate, x.size, g, x.want)
		}
	}
}

func TestRate(t *testing.T) {
	for _, fee := range ints() {
		for _, size := range ints() {
			want := refused
			if isAmount(fee) && isSize(size) && size != 0 {
				want = answer{divide(times(fee, 1000), size, false), api.OK}
			}
			if g := got(amount.Rate(fee, size)); g != want {
				t.Errorf("P1.2: Rate(%d, %d) is %v, not %v", fee, size, g, want)
			}
		}
	}
}

func TestRateExamples(t *testing.T) {
	for _, x := range []struct {
		fee, size int
		want      answer
	}{
		{212, 141, answer{1503, 0}},
		{200, 200, answer{1000, 0}},
		{199, 200, answer{995, 0}},
		{1, 3, answer{333, 0}},
		{2, 3, answer{666, 0}},
		{3, 3, answer{1000, 0}},
		{0, 1, answer{0, 0}},
		{1, 1000, answer{1, 0}},
		{1, 1001, answer{0, 0}},
		{999, api.MaxSize, answer{0, 0}},
		{1000, api.MaxSize, answer{1, 0}},
		{api.MaxMoney, 1, answer{2100000000000000000, 0}},
		{api.MaxMoney, api.MaxSize, answer{2100000000000, 0}},
		{0, 0, refused},
		{1, 0, refused},
		{api.MaxMoney, 0, refused},
		{-1, 0, refused},
		{-1, 1, refused},
		{1, -1, refused},
		{1, api.MaxSize + 1, refused},
		{api.MaxMoney + 1, 1, refused},
		{math.MinInt, -1, refused},
		{math.MaxInt, math.MaxInt, refused},
	} {
		if g := got(amount.Rate(x.fee, x.size)); g != x.want {
			t.Errorf("P1.2: Rate(%d, %d) is %v, not %v", x.fee, x.size, g, x.want)
		}
	}
}

func TestCompareExamples(t *testing.T) {
	for _, x := range []struct{ fee, size, other, its, want int }{
		{1, 3, 2, 6, 0},
		{1, 2, 1, 2, 0},
		{0, 5, 0, 9, 0},
		{1, 2, 1, 3, 1},
		{1, 3, 1, 2, -1},
		{2, 3, 1, 3, 1},
		{1, 3, 2, 3, -1},
		{0, 1, 1, api.MaxSize, -1},
		{1, api.MaxSize, 0, 1, 1},
		// Rounded rates would be the same.
		{1, 999999, 1, api.MaxSize, 1},
		{999999, api.MaxSize, 999998, 999999, 1},
		{500000, 999999, 500001, api.MaxSize, -1},
		// Products that an int doesn't hold, and some that a float doesn't tell apart.
		{api.MaxMoney, 999999, api.MaxMoney, api.MaxSize, 1},
		{api.MaxMoney, api.MaxSize, api.MaxMoney, 999999, -1},
		{api.MaxMoney, api.MaxSize, api.MaxMoney - 1, api.MaxSize, 1},
		{api.MaxMoney - 1, api.MaxSize, api.MaxMoney, api.MaxSize, -1},
		{api.MaxMoney, api.MaxSize, api.MaxMoney, api.MaxSize, 0},
		{api.MaxMoney, api.MaxSize, api.MaxMoney / 2, api.MaxSize / 2, 0},
		{2099997900000001, 999999, 2099995800000001, 999998, -1},
		{2099995800000001, 999998, 2099997900000001, 999999, 1},
		{api.MaxMoney, 1, 0, api.MaxSize, 1},
		// What isn't told.
		{1, 0, 1, 1, 0},
		{1, 1, 1, 0, 0},
		{2, 0, 1, 0, 0},
		{-1, 1, 1, 1, 0},
		{1, 1, -1, 1, 0},
		{1, -1, 1, 1, 0},
		{2, 1, 1, -1, 0},
		{1, 1, 0, api.MaxSize + 1, 0},
		{1, api.MaxSize + 1, 1, 1, 0},
		{api.MaxMoney + 1, 1, 1, 1, 0},
		{1, 1, api.MaxMoney + 1, 1, 0},
		{math.MinInt, -1, 1, 1, 0},
		{math.MaxInt, 1, math.MinInt, 1, 0},
	} {
		if n := amount.Compare(x.fee, x.size, x.other, x.its); n != x.want {
			t.Errorf("P1.3: Compare(%d, %d, %d, %d) is %d, not %d", x.fee, x.size, x.other, x.its, n, x.want)
		}
	}
}

func TestCompareIsExact(t *testing.T) {
	for _, fee := range amounts() {
		for _, size := range sizes() {
			for _, other := range amounts() {
				for _, its := range sizes() {
					want := times(fee, its).Cmp(times(other, size))
					if n := amount.Compare(fee, size, other, its); n != want {
						t.Errorf("P1.3: Compare(%d, %d, %d, %d) is %d, not %d", fee, size, other, its, n, want)
					}
				}
			}
		}
	}
}

func TestCompareTellsNothingOfWrongNumbers(t *testing.T) {
	same := func(fee, size, other, its int) {
		if n := amount.Compare(fee, size, other, its); n != 0 {
			t.Errorf("P1.3: Compare(%d, %d, %d, %d) is %d, not 0", fee, size, other, its, n)
		}
	}
	for _, fee := range noAmounts() {
		for _, size := range ints() {
			same(fee, size, 3, 7)
			same(3, 7, fee, size)
		}
	}
	for _, size := range append(noSizes(), 0) {
		for _, fee := range ints() {
			same(fee, size, 3, 7)
			same(3, 7, fee, size)
		}
	}
}

func TestFeeIsTheLeastOfItsRate(t *testing.T) {
	for _, rate := range rates() {
		for _, size := range sizes() {
			fee, e := amount.Fee(rate, size)
			if e != api.OK {
				t.Fatalf("P1.4: Fee(%d, %d): %v", rate, size, e)
			}
			if r, e := amount.Rate(fee, size); e != api.OK || r < rate {
				t.Errorf("P1.4: the fee %d of %d for %d has the rate %d, %v", fee, rate, size, r, e)
			}
			if fee == 0 {
				continue
			}
			if r, e := amount.Rate(fee-1, size); e != api.OK || r >= rate {
				t.Errorf("P1.4: %d for %d, less than the fee %d, has the rate %d, %v, no less than %d", fee-1, size, fee, r, e, rate)
			}
		}
	}
}

func TestAddAndTakeAwayAgain(t *testing.T) {
	for _, a := range amounts() {
		for _, b := range amounts() {
			if s, e := amount.Add(a, b); e == api.OK {
				if g := got(amount.Sub(s, b)); g != (answer{a, 0}) {
					t.Errorf("P1.4: %d and %d, less %d, is %v", a, b, b, g)
				}
			}
			if d, e := amount.Sub(a, b); e == api.OK {
				if g := got(amount.Add(d, b)); g != (answer{a, 0}) {
					t.Errorf("P1.4: %d less %d, and %d, is %v", a, b, b, g)
				}
			}
		}
	}
}
