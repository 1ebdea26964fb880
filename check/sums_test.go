package check_test

import (
	"math"
	"slices"
	"testing"

	"kedge/api"
	"kedge/check"
)

// feeOf a scene; false, if there is none.
func feeOf(t *testing.T, s scene) (int, bool) {
	t.Helper()
	fee, err := check.Fee(s.ledger(), s.tx, s.height)
	if err != nil && fee != 0 {
		t.Errorf("rule 2: a fee of %d beside %v", fee, err)
	}
	return fee, err == nil
}

// TestFees: coins that are less than what is paid, just as much, and more.
func TestFees(t *testing.T) {
	for _, x := range []struct {
		pays   int
		values []int
		want   answer
	}{
		{0, []int{0}, paid(0)}, {0, []int{1}, paid(1)}, {1, []int{0}, refused(api.ErrValue)}, {1, []int{1}, paid(0)}, {1, []int{2}, paid(1)},
		{501, []int{500}, refused(api.ErrValue)}, {500, []int{500}, paid(0)}, {499, []int{500}, paid(1)},
		{601, []int{100, 200, 300}, refused(api.ErrValue)}, {600, []int{100, 200, 300}, paid(0)}, {599, []int{100, 200, 300}, paid(1)},
		{0, []int{0, 0, 0}, paid(0)}, {1, []int{0, 0, 0}, refused(api.ErrValue)}, {0, []int{0, 0, 7}, paid(7)},
		{most, []int{most}, paid(0)}, {most, []int{most - 1}, refused(api.ErrValue)}, {most - 1, []int{most}, paid(1)}, {0, []int{most}, paid(most)},
		{most, []int{1, most - 1}, paid(0)}, {most, []int{1, most - 2}, refused(api.ErrValue)}, {most, []int{0}, refused(api.ErrValue)},
	} {
		spending(x.pays, x.values...).putable(t).want(t, x.want)
	}
}

// TestManyOuts: all Outs together are what is paid.
func TestManyOuts(t *testing.T) {
	for _, fee := range []int{-1, 0, 1} {
		s := spending(0, 256+fee)
		s.tx.Outs = slices.Repeat([]api.Out{{Value: 1}}, 256)
		want := paid(fee)
		if fee < 0 {
			want = refused(api.ErrValue)
		}
		s.want(t, want)
	}
}

// TestCoinsTogether: coins that come to MaxMoney, and to one more, which no set of layer 10 has.
func TestCoinsTogether(t *testing.T) {
	full := slices.Repeat([]int{most / 256}, 256)
	for _, values := range [][]int{{most}, {most, 0}, {0, most}, {most - 1, 1}, {1, 2, most - 3}, {most / 2, most / 2}, full} {
		for _, pays := range []int{0, 1, most - 1, most} {
			spending(pays, values...).putable(t).want(t, paid(most-pays))
			for at := range min(len(values), 3) {
				more := slices.Clone(values)
				more[at]++
				spending(pays, more...).want(t, refused(api.ErrRange))
			}
			spending(pays, append(slices.Clone(values[:len(values)-1]), values[len(values)-1]-1)...).want(t, lessThan(pays, most-1))
		}
	}
	for _, values := range [][]int{{most, most}, {most, 1}, {1, most}, {most, 0, 1}, slices.Repeat([]int{most}, 3), slices.Repeat([]int{most}, 256), {1 << 62}, {1 << 61, 1 << 61}} {
		spending(0, values...).want(t, refused(api.ErrRange))
		spending(most, values...).want(t, refused(api.ErrRange))
	}
}

// lessThan: the answer, if so much is paid by coins of so much.
func lessThan(pays, have int) answer {
	if have < pays {
		return refused(api.ErrValue)
	}
	return paid(have - pays)
}

// TestValuesThatAreNone: a coin whose Value is no amount, alone and beside coins without a Value.
func TestValuesThatAreNone(t *testing.T) {
	for _, value := range []int{math.MinInt, math.MinInt + 1, -most, -2, -1, most + 1, most + 2, 1 << 62, math.MaxInt - 1, math.MaxInt} {
		for _, pays := range []int{0, 1, most} {
			spending(pays, value).want(t, refused(api.ErrRange))
			spending(pays, value, 0).want(t, refused(api.ErrRange))
			spending(pays, 0, 0, value).want(t, refused(api.ErrRange))
		}
		// The fault of a later In goes ahead.
		s := spending(0, value, 0)
		s.tx.Ins[1].Witness = nil
		s.want(t, faultAt(1, api.ErrLock))
		s.coins[1].Point = point(90)
		s.want(t, faultAt(1, api.ErrNone))
	}
}

// TestSumsOfInt: only what the coins come to together has to be an amount, and 'Words' says that sums of int are meant, which wrap round.
func TestSumsOfInt(t *testing.T) {
	spending(400, -1, 501).want(t, paid(100))
	spending(400, 501, -1).want(t, paid(100))
	spending(501, 501, -1).want(t, refused(api.ErrValue))
	spending(0, 5, -5).want(t, paid(0))
	spending(0, 5, -6).want(t, refused(api.ErrRange))
	spending(0, most+1, -1).want(t, paid(most))
	spending(0, most+1, -1, 1).want(t, refused(api.ErrRange))
	spending(7, math.MaxInt, math.MaxInt, 12).want(t, paid(3))
	spending(0, math.MinInt, math.MinInt).want(t, paid(0))
}
