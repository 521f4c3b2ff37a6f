package tests

import (
	"math/big"
	"slices"
	"testing"

	"loop.example/robotcell/impl"
)

// slope is a fraction. Both numbers are 0 if there is no line.
type slope struct {
	numerator   int
	denominator int
}

func slopeOf(list []impl.Pair) slope {
	numerator, denominator := impl.FitSlope(list)
	return slope{numerator, denominator}
}

// wantedSlope adds up the products of the differences of any two pairs, which is
// the same as the document's numbers.
func wantedSlope(list []impl.Pair) slope {
	products, squares := 0, 0
	for k, p := range list {
		for _, q := range list[:k] {
			products += (p.Measured - q.Measured) * (p.True - q.True)
			squares += (p.Measured - q.Measured) * (p.Measured - q.Measured)
		}
	}
	if squares == 0 {
		return slope{}
	}
	ratio := big.NewRat(int64(products), int64(squares))
	return slope{int(ratio.Num().Int64()), int(ratio.Denom().Int64())}
}

// formulaSlope is the document's formula in unbounded numbers.
func formulaSlope(list []impl.Pair) slope {
	x, y, xx, xy, n := new(big.Int), new(big.Int), new(big.Int), new(big.Int), big.NewInt(int64(len(list)))
	product := func(a *big.Int, b *big.Int) *big.Int { return new(big.Int).Mul(a, b) }
	for _, p := range list {
		measured, value := big.NewInt(int64(p.Measured)), big.NewInt(int64(p.True))
		x.Add(x, measured)
		y.Add(y, value)
		xx.Add(xx, product(measured, measured))
		xy.Add(xy, product(measured, value))
	}
	above, below := new(big.Int).Sub(product(n, xy), product(x, y)), new(big.Int).Sub(product(n, xx), product(x, x))
	if below.Sign() == 0 {
		return slope{}
	}
	ratio := new(big.Rat).SetFrac(above, below)
	return slope{int(ratio.Num().Int64()), int(ratio.Denom().Int64())}
}

func measuredOf(list []impl.Pair) []int {
	var measured []int
	for _, p := range list {
		measured = append(measured, p.Measured)
	}
	return measured
}

// isLowest tries all numbers that could divide both numbers of a slope.
func (s slope) isLowest() bool {
	for d := 2; d <= s.denominator; d++ {
		if s.numerator%d == 0 && s.denominator%d == 0 {
			return false
		}
	}
	return s.denominator > 0
}

// negated is the slope if one of both values is negated.
func (s slope) negated() slope {
	return slope{-s.numerator, s.denominator}
}

// stretchedPairs have values that are multiplied.
func stretchedPairs(list []impl.Pair, measured int, value int) []impl.Pair {
	var other []impl.Pair
	for _, p := range list {
		other = append(other, pair(p.Measured*measured, p.True*value))
	}
	return other
}

// pairsOnLine are n pairs on a line through a pair, beginning with that one.
func pairsOnLine(first impl.Pair, right int, up int, n int) []impl.Pair {
	var list []impl.Pair
	for k := range n {
		list = append(list, pair(first.Measured+k*right, first.True+k*up))
	}
	return list
}

func TestFitSlopeExamples(t *testing.T) {
	for _, c := range []struct {
		list []impl.Pair
		want slope
	}{
		// One pair, and measured values that are all equal.
		{pairList(3, 5), slope{}}, {pairList(0, 0), slope{}}, {pairList(-1000, 1000), slope{}}, {pairList(3, 0, 3, 9), slope{}}, {pairList(3, 7, 3, 7), slope{}}, {pairList(0, 1, 0, 2, 0, 3), slope{}}, {pairList(-1000, 1000, -1000, -1000), slope{}}, {samePairs(pair(1000, 1000), 20), slope{}},
		// A slope of 0.
		{pairList(0, 5, 1, 5), slope{0, 1}}, {pairList(0, 0, 7, 0), slope{0, 1}}, {pairList(7, -3, -2, -3, 4, -3), slope{0, 1}}, {pairList(-1, 1, 0, 0, 1, 1), slope{0, 1}}, {pairList(-1000, 1000, 1000, 1000), slope{0, 1}}, {pairList(0, 1, 0, -1, 5, 0), slope{0, 1}}, {pairList(0, 0, 0, 6, 6, 0, 6, 6), slope{0, 1}},
		// Whole slopes, positive and negative.
		{pairList(0, 1, 2, 5), slope{2, 1}}, {pairList(2, 5, 0, 1), slope{2, 1}}, {pairList(0, 1, 2, -5), slope{-3, 1}}, {pairList(2, -5, 0, 1), slope{-3, 1}}, {pairList(-1, -1, 1, 1), slope{1, 1}}, {pairList(-1, 1, 1, -1), slope{-1, 1}}, {pairList(1, 3, 2, 5), slope{2, 1}}, {pairList(0, -1000, 1, 1000), slope{2000, 1}}, {pairList(0, 1000, 1, -1000), slope{-2000, 1}},
		// Fractions, also those that must be reduced.
		{pairList(0, 0, 3, -1), slope{-1, 3}}, {pairList(0, 0, 3, 1), slope{1, 3}}, {pairList(0, 0, 6, 4), slope{2, 3}}, {pairList(0, 0, 6, -4), slope{-2, 3}}, {pairList(-6, 4, 0, 0), slope{-2, 3}}, {pairList(0, 0, 12, 18), slope{3, 2}}, {pairList(0, 0, 1000, 999), slope{999, 1000}}, {pairList(-1000, -999, 1000, 1000), slope{1999, 2000}}, {pairList(-1000, 0, 1000, 1), slope{1, 2000}}, {pairList(-1000, 1, 1000, 0), slope{-1, 2000}},
		// More pairs than two, not on one line.
		{pairList(0, 0, 1, 1, 2, 1), slope{1, 2}}, {pairList(0, 0, 1, -1, 2, -1), slope{-1, 2}}, {pairList(0, 0, 1, 0, 2, 1), slope{1, 2}}, {pairList(0, 0, 1, 1, 2, 4), slope{2, 1}}, {pairList(0, 0, 1, 1, 3, 2), slope{9, 14}}, {pairList(0, 0, 1, 2, 3, 1), slope{3, 14}}, {pairList(0, 0, 1, 1, 2, 4, 3, 9), slope{3, 1}}, {pairList(1, 2, 2, 3, 3, 5, 4, 4), slope{4, 5}}, {pairList(1, 2, 1, 4, 2, 6), slope{3, 1}}, {pairList(0, 0, 0, 0, 0, 3, 1, 0), slope{-1, 1}},
		// The largest sums.
		{append(samePairs(pair(1000, 1000), 10), samePairs(pair(-1000, -1000), 10)...), slope{1, 1}}, {append(samePairs(pair(1000, -1000), 10), samePairs(pair(-1000, 1000), 10)...), slope{-1, 1}}, {append(samePairs(pair(1000, 1000), 10), samePairs(pair(1000, -1000), 10)...), slope{}}, {append(samePairs(pair(1000, 1000), 19), pair(999, -1000)), slope{2000, 1}}, {append(samePairs(pair(1000, -1000), 19), pair(999, 1000)), slope{-2000, 1}}, {append(samePairs(pair(-1000, 1000), 19), pair(1000, 999)), slope{-1, 2000}}, {append(samePairs(pair(1000, 1000), 19), pair(-1000, 999)), slope{1, 2000}},
		// Invalid pairs.
		{nil, slope{}}, {[]impl.Pair{}, slope{}}, {samePairs(pair(3, 5), 21), slope{}}, {pairsOnLine(pair(0, 0), 1, 2, 21), slope{}}, {pairList(0, 0, 1001, 0), slope{}}, {pairList(0, 0, 1, 1001), slope{}}, {pairList(-1001, 0, 1, 1), slope{}}, {pairList(0, 0, 1, 1, 2, -1001, 3, 3), slope{}},
	} {
		if got := slopeOf(c.list); got != c.want {
			t.Errorf("FitSlope(%v) is %v, not %v", c.list, got, c.want)
		}
	}
}

// Promise 83, by the document's formula and by the differences of any two pairs.
func TestSlopesFitBest(t *testing.T) {
	eachPairList(func(list []impl.Pair) {
		got := slopeOf(list)
		if got != formulaSlope(list) || got != wantedSlope(list) {
			t.Errorf("FitSlope(%v) is %v, not %v", list, got, formulaSlope(list))
		}
	})
}

// leftOver is the sum of the squares of what a line with a slope leaves at best,
// times the squared denominator and the number of pairs.
func (s slope) leftOver(list []impl.Pair) *big.Int {
	sum, squares := new(big.Int), new(big.Int)
	for _, p := range list {
		rest := big.NewInt(int64(s.denominator*p.True - s.numerator*p.Measured))
		sum.Add(sum, rest)
		squares.Add(squares, new(big.Int).Mul(rest, rest))
	}
	squares.Mul(squares, big.NewInt(int64(len(list))))
	return squares.Sub(squares, sum.Mul(sum, sum))
}

// Promise 83: a line with a slope that is a little greater or less is farther from
// the pairs.
func TestOtherSlopesFitLess(t *testing.T) {
	eachPairList(func(list []impl.Pair) {
		got := slopeOf(list)
		if got == (slope{}) {
			return
		}
		for _, fine := range []int{1, 7, 1000} {
			least := slope{got.numerator * fine, got.denominator * fine}
			for _, step := range []int{-100, -1, 1, 100} {
				other := slope{least.numerator + step, least.denominator}
				if other.leftOver(list).Cmp(least.leftOver(list)) <= 0 {
					t.Errorf("FitSlope(%v) is %v, and %v fits as well or better", list, got, other)
				}
			}
		}
	})
}

// Promise 83: the denominator is positive, and there is no fraction with smaller
// numbers; both numbers are 0 exactly if all measured values are equal.
func TestSlopesAreInLowestTerms(t *testing.T) {
	eachPairList(func(list []impl.Pair) {
		got := slopeOf(list)
		if measured := measuredOf(list); isFilled(measured, measured[0]) {
			if got != (slope{}) {
				t.Errorf("FitSlope(%v) is %v for equal measured values", list, got)
			}
			return
		}
		if got.denominator < 1 || new(big.Int).GCD(nil, nil, big.NewInt(int64(absolute(got.numerator))), big.NewInt(int64(got.denominator))).Int64() != 1 {
			t.Errorf("FitSlope(%v) is %v", list, got)
		}
	})
}

// Promise 83, for two pairs with all small differences: every fraction is reduced,
// whichever pair is the first one.
func TestSlopesOfTwoPairs(t *testing.T) {
	for right := -40; right <= 40; right++ {
		for up := -40; up <= 40; up++ {
			got := slopeOf(pairList(7, -3, 7+right, -3+up))
			want := slope{}
			if right != 0 {
				ratio := big.NewRat(int64(up), int64(right))
				want = slope{int(ratio.Num().Int64()), int(ratio.Denom().Int64())}
			}
			if got != want {
				t.Errorf("the slope of two pairs %d and %d apart is %v, not %v", right, up, got, want)
			}
			if right != 0 && (!got.isLowest() || up == 0 && got != (slope{0, 1})) {
				t.Errorf("the slope of two pairs %d and %d apart is %v", right, up, got)
			}
		}
	}
}

// Promise 83. Shifted values have the same slope, and those with the other sign the
// negated one.
func TestSlopesDoNotDependOnThePlace(t *testing.T) {
	eachPairList(func(list []impl.Pair) {
		want := slopeOf(list)
		for _, by := range []int{-2000, -500, -2, -1, 1, 33, 1000, 2000} {
			for _, other := range [][]impl.Pair{shiftedPairs(list, 0, by), shiftedPairs(list, by, 0), shiftedPairs(list, by, by), shiftedPairs(list, by, -by)} {
				if impl.PairsValid(other) && slopeOf(other) != want {
					t.Errorf("FitSlope(%v) is %v, and %v if it is shifted by %d", list, want, slopeOf(other), by)
				}
			}
		}
		if got := slopeOf(stretchedPairs(list, 1, -1)); got != want.negated() {
			t.Errorf("FitSlope(%v) is %v, and %v with negated true values", list, want, got)
		}
		if got := slopeOf(stretchedPairs(list, -1, 1)); got != want.negated() {
			t.Errorf("FitSlope(%v) is %v, and %v with negated measured values", list, want, got)
		}
	})
}

// Promise 83. The order of the pairs has no effect, nor has it if each occurs twice.
func TestSlopesDoNotDependOnTheOrder(t *testing.T) {
	eachPairList(func(list []impl.Pair) {
		want := slopeOf(list)
		back := slices.Clone(list)
		slices.Reverse(back)
		if got := slopeOf(back); got != want {
			t.Errorf("FitSlope(%v) is %v, and %v in the reversed order", list, want, got)
		}
		if twice := append(back, list...); len(twice) <= mostPairs && slopeOf(twice) != want {
			t.Errorf("FitSlope(%v) is %v, and %v if each pair occurs twice", list, want, slopeOf(twice))
		}
	})
}

// Promise 83, for every number of pairs on lines in many directions.
func TestLinesHaveTheirSlope(t *testing.T) {
	firsts := pairList(0, 0, 5, -7, -300, 400, 100, 100)
	for n := 2; n <= mostPairs; n++ {
		for right := -30; right <= 30; right++ {
			for up := -30; up <= 30; up += 3 {
				for _, first := range firsts {
					list := pairsOnLine(first, right, up, n)
					if !impl.PairsValid(list) {
						t.Fatalf("the pairs %v are not valid", list)
					}
					if got, want := slopeOf(list), slopeOf(list[:2]); got != want || got != wantedSlope(list) {
						t.Errorf("FitSlope(%v) is %v, and %v for the first two pairs", list, got, want)
					}
				}
			}
		}
	}
}

// Promise 83, for values as far from each other as possible, with every number of
// pairs at either end.
func TestSlopesOfTheLargestSums(t *testing.T) {
	for first := range mostPairs + 1 {
		for second := range mostPairs + 1 - first {
			third := mostPairs - first - second
			for _, ends := range [][]impl.Pair{pairList(-1000, -1000, 1000, 1000, 1000, -1000), pairList(-1000, 1000, 1000, -1000, 999, -999), pairList(1000, 1000, 1000, -1000, 999, 1000), pairList(-1000, 1000, -999, 1000, -1000, -1000)} {
				list := slices.Concat(samePairs(ends[0], first), samePairs(ends[1], second), samePairs(ends[2], third))
				if got, want := slopeOf(list), formulaSlope(list); got != want {
					t.Errorf("FitSlope(%v) is %v, not %v", list, got, want)
				}
			}
		}
	}
}

// Promise 83.
func TestFitSlopeOfInvalidPairs(t *testing.T) {
	for _, list := range invalidPairLists() {
		if got := slopeOf(list); got != (slope{}) {
			t.Errorf("FitSlope(%v) is %v", list, got)
		}
	}
}
