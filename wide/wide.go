// Package wide is layer 1: sums that never run over. A wide number is in two's complement of 128 bits, so that what runs over is cut off by itself.
package wide

import (
	"iter"
	"math/bits"

	"tesserae/api"
)

// Of is n as a wide number.
func Of(n int64) api.Wide {
	return api.Wide{Hi: n >> 63, Lo: uint64(n)}
}

// Add is the sum of a and b.
func Add(a api.Wide, b api.Wide) api.Wide {
	lo, carry := bits.Add64(a.Lo, b.Lo, 0)
	hi, _ := bits.Add64(uint64(a.Hi), uint64(b.Hi), carry)
	return api.Wide{Hi: int64(hi), Lo: lo}
}

// Neg is what is to be added to a for 0.
func Neg(a api.Wide) api.Wide {
	return Add(api.Wide{Hi: ^a.Hi, Lo: ^a.Lo}, Of(1))
}

// Mul is the product of n and m.
func Mul(n int64, m int64) api.Wide {
	hi, lo := bits.Mul64(uint64(n), uint64(m))
	// Without its sign a number below 0 is read as 2^64 more: the other one is then 2^64 times too often in the product.
	if n < 0 {
		hi -= uint64(m)
	}
	if m < 0 {
		hi -= uint64(n)
	}
	return api.Wide{Hi: int64(hi), Lo: lo}
}

// Compare is -1 where a is less than b, 0 where they are the same, 1 where a is greater.
func Compare(a api.Wide, b api.Wide) int {
	order := 0
compared:
	for x, y := range halves(a, b) {
		switch {
		case x < y:
			order = -1
			break compared
		case x > y:
			order = 1
			break compared
		}
	}
	return order
}

// halves goes through the halves of a and b, the greater ones first, each as a number without a sign that stands where its half does.
func halves(a api.Wide, b api.Wide) iter.Seq2[uint64, uint64] {
	return func(yield func(uint64, uint64) bool) {
		if yield(aboveNought(a.Hi), aboveNought(b.Hi)) {
			yield(a.Lo, b.Lo)
		}
	}
}

// aboveNought is n and 2^63: it keeps the order of numbers, and none is below 0.
func aboveNought(n int64) uint64 {
	return uint64(n) ^ 1<<63
}

// To is a as a number of 64 bits, if it is one.
func To(a api.Wide) (int64, api.Errno) {
	n := int64(a.Lo)
	if Of(n) != a {
		goto over
	}
	return n, api.OK
over:
	return 0, api.ErrOverflow
}

// Sum is the sum of all numbers of l.
func Sum(l []int64) api.Wide {
	var sum api.Wide
	for a := range each(l...) {
		sum = Add(sum, a)
	}
	return sum
}

// each goes through numbers as wide ones.
func each(numbers ...int64) iter.Seq[api.Wide] {
	return func(yield func(api.Wide) bool) {
		for _, n := range numbers {
			if !yield(Of(n)) {
				return
			}
		}
	}
}

// Shift is a times 2 to the power by, or 0 where no such power is asked for: by below 0, or above 127.
func Shift(a api.Wide, by int) api.Wide {
	switch {
	case by < 0 || by > 127:
		return api.Wide{}
	case by > 63:
		return api.Wide{Hi: int64(a.Lo << (by - 64))}
	default:
		// At by 0 the lesser half goes 64 digits down: nothing of it is left, as it should be.
		return api.Wide{Hi: a.Hi<<by | int64(a.Lo>>(64-by)), Lo: a.Lo << by}
	}
}
