// Package amount is layer 1: see shared/doc/01-amount.md.
package amount

import (
	"cmp"

	"kedge/api"
)

// rateUnit is how many virtual bytes a rate is for.
const rateUnit = 1000

// Good: may a number be an amount?
func Good(a int) bool { return within(a, api.MaxMoney) }

// Add two amounts.
func Add(a, b int) (int, api.Errno) {
	// Two amounts are far below the greatest int, so their sum can't wrap round once both are known to be good.
	if !Good(a) || !Good(b) || !Good(a+b) {
		return 0, api.ErrRange
	}
	return a + b, api.OK
}

// Sub one amount from another one.
func Sub(a, b int) (int, api.Errno) {
	if !Good(a) || !Good(b) || b > a {
		return 0, api.ErrRange
	}
	return a - b, api.OK
}

// Sum of amounts.
func Sum(l []int) (int, api.Errno) {
	// Amounts aren't below 0, so a sum that is too great at one place stays so: the first refusal is the answer for all.
	sum := 0
	for _, a := range l {
		next, e := Add(sum, a)
		if e != api.OK {
			return 0, e
		}
		sum = next
	}
	return sum, api.OK
}

// Fee of a size at a rate.
func Fee(rate, size int) (int, api.Errno) {
	if !within(rate, api.MaxRate) || !within(size, api.MaxSize) {
		return 0, api.ErrRange
	}
	return (rate*size + rateUnit - 1) / rateUnit, api.OK
}

// Rate of a fee for a size.
func Rate(fee, size int) (int, api.Errno) {
	if !hasRate(fee, size) {
		return 0, api.ErrRange
	}
	// MaxMoney times 1000 is still an int of 64 bits.
	return fee * rateUnit / size, api.OK
}

// Compare the rates of two fees for two sizes.
func Compare(fee, size, other, its int) int {
	if !hasRate(fee, size) || !hasRate(other, its) {
		return 0
	}
	// A fee times the other's size may be more than an int holds: so the whole parts are compared first,
	// and only what is left of each fee, less than its size, is multiplied.
	if n := cmp.Compare(fee/size, other/its); n != 0 {
		return n
	}
	return cmp.Compare(fee%size*its, other%its*size)
}

// within: is a number from 0 to the most?
func within(n, most int) bool { return 0 <= n && n <= most }

// hasRate: may a fee be divided by a size?
func hasRate(fee, size int) bool {
	return Good(fee) && within(size, api.MaxSize) && size != 0
}
