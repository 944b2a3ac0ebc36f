package lethal

import (
	"math"
	"math/big"
	"testing"
)

// whole is n as a number of the library.
func (n number) whole() *big.Int {
	sum := new(big.Int)
	for i := len(n) - 1; i >= 0; i-- {
		sum.Lsh(sum, 64)
		sum.Or(sum, new(big.Int).SetUint64(n[i]))
	}
	return sum
}

func TestNumbers(t *testing.T) {
	var l []number
	for _, base := range []int{1, 2, 3, 10, 4294967295, 4294967296, 999999999999999999, math.MaxInt} {
		for _, exponent := range []int{0, 1, 2, 3, 59, 60} {
			n := power(base, exponent)
			if want := new(big.Int).Exp(big.NewInt(int64(base)), big.NewInt(int64(exponent)), nil); n.whole().Cmp(want) != 0 {
				t.Errorf("%d to the power %d is %v", base, exponent, n)
			}
			l = append(l, n)
		}
	}
	for _, n := range l {
		for _, m := range l {
			if n.above(m) != (n.whole().Cmp(m.whole()) > 0) {
				t.Errorf("%v above %v: %t", n, m, n.above(m))
			}
		}
	}
}
