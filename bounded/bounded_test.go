package bounded

import (
	"math"
	"math/big"
	"testing"
)

func edges() []int64 {
	l := []int64{0, 1, 2, 3, 7, 10, 999999999, 1<<31 - 1, 1 << 31, 1 << 32, 3037000499, 3037000500, 1<<62 - 1, 1 << 62, 1<<62 + 1, math.MaxInt64/2 + 1, math.MaxInt64 - 1, math.MaxInt64, math.MinInt64}
	for _, n := range l {
		l = append(l, -n)
	}
	return append(l, math.MinInt64+1)
}

// ended brings a number without ends to the ends.
func ended(n *big.Int) int64 {
	switch {
	case n.Cmp(big.NewInt(math.MaxInt64)) > 0:
		return math.MaxInt64
	case n.Cmp(big.NewInt(math.MinInt64)) < 0:
		return math.MinInt64
	}
	return n.Int64()
}

// down is the greatest number that, times y, goes no further than x (for y below 0: of both negatives).
func down(x, y *big.Int) *big.Int {
	if y.Sign() < 0 {
		x, y = new(big.Int).Neg(x), new(big.Int).Neg(y)
	}
	return new(big.Int).Div(x, y) // Euclid's: down, where y is above 0
}

func TestP9Pairs(t *testing.T) {
	for _, x := range edges() {
		for _, y := range edges() {
			a, b := big.NewInt(x), big.NewInt(y)
			for _, c := range []struct {
				sign string
				got  int64
				want *big.Int
			}{
				{"+", Sum(x, y), new(big.Int).Add(a, b)},
				{"-", Difference(x, y), new(big.Int).Sub(a, b)},
				{"*", Product(x, y), new(big.Int).Mul(a, b)},
			} {
				if c.got != ended(c.want) {
					t.Errorf("P9: %d %s %d = %d, want %d", x, c.sign, y, c.got, ended(c.want))
				}
			}
			if y == 0 {
				continue
			}
			if q := Quotient(x, y); q != ended(down(a, b)) {
				t.Errorf("P9: %d / %d = %d, want %d", x, y, q, ended(down(a, b)))
			}
		}
	}
}

func TestP9Negative(t *testing.T) {
	for _, x := range edges() {
		if want := ended(new(big.Int).Neg(big.NewInt(x))); Negative(x) != want {
			t.Errorf("P9: the negative of %d = %d, want %d", x, Negative(x), want)
		}
	}
}
