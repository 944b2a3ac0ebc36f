package lethal

import "math/bits"

// number is a big number above 0: its words, the least first, without a leading word 0.
type number []uint64

// power returns base (above 0) to some power.
func power(base, exponent int) number {
	// A product has at most as many words as factors.
	n := append(make(number, 0, exponent+1), 1)
	for range exponent {
		n = n.times(base)
	}
	return n
}

// times multiplies n in place, as append does: n itself is not used any more.
func (n number) times(factor int) number {
	carry := uint64(0)
	for i, word := range n {
		high, low := bits.Mul64(word, uint64(factor))
		sum, over := bits.Add64(low, carry, 0)
		n[i] = sum
		carry = high + over
	}
	if carry > 0 {
		n = append(n, carry)
	}
	return n
}

// above reports whether n is greater than m.
func (n number) above(m number) bool {
	if len(n) != len(m) {
		return len(n) > len(m)
	}
	for i := len(n) - 1; i >= 0; i-- {
		if n[i] != m[i] {
			return n[i] > m[i]
		}
	}
	return false
}
