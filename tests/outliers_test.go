package tests

import (
	"math"
	"slices"
	"testing"

	"loop.example/robotcell/impl"
)

// searchedOffset is the nearest number to the mean of all differences, which is
// between the least and the greatest of them.
func searchedOffset(list []impl.Pair) int {
	offset := slices.Min(differencesOf(list))
	for !isNearestMean(list, offset) {
		offset++
	}
	return offset
}

// deviationsOf are the distances of the pairs from an offset.
func deviationsOf(list []impl.Pair, offset int) []int {
	var deviations []int
	for _, d := range differencesOf(list) {
		deviations = append(deviations, absolute(d-offset))
	}
	return deviations
}

func wantedWithout(list []impl.Pair, offset int, limit int) []impl.Pair {
	var kept []impl.Pair
	for k, d := range deviationsOf(list, offset) {
		if d <= limit {
			kept = append(kept, list[k])
		}
	}
	return kept
}

// limitsFor are those at which the result changes, numbers beside them, and large
// ones.
func limitsFor(list []impl.Pair) []int {
	limits := []int{0, 1, 2, 10, 2*farOffset - 1, 2 * farOffset, 1 << 32, math.MaxInt - 1, math.MaxInt}
	for _, d := range deviationsOf(list, impl.FitOffset(list)) {
		limits = append(limits, d-1, d, d+1)
	}
	return bounds(0, math.MaxInt, limits...)
}

// isPartOf reports whether a list is left from another one if some are removed.
func isPartOf(part []impl.Pair, list []impl.Pair) bool {
	for _, p := range list {
		if len(part) > 0 && part[0] == p {
			part = part[1:]
		}
	}
	return len(part) == 0
}

func TestWithoutOutliersExamples(t *testing.T) {
	for _, c := range []struct {
		list  []impl.Pair
		limit int
		want  []impl.Pair
	}{
		{pairList(0, 0, 0, 0, 0, 9), 4, pairList(0, 0, 0, 0)},
		// The limit 0: pairs with the offset itself, all, some and none.
		{pairList(3, 5), 0, pairList(3, 5)}, {pairList(1, 3, 2, 4, 3, 5), 0, pairList(1, 3, 2, 4, 3, 5)}, {pairList(0, 1, 0, 2, 0, 3), 0, pairList(0, 2)}, {pairList(0, 0, 0, 1), 0, pairList(0, 1)}, {pairList(0, 0, 0, -1), 0, pairList(0, 0)}, {pairList(0, 0, 0, 2), 0, nil}, {pairList(2, 0, 0, 0), 0, nil}, {pairList(0, 3, 0, 9, 0, 5, 0, 3), 0, pairList(0, 5)}, {pairList(0, 0, 0, 0, 0, 9), 0, nil},
		// No pair is kept although the limit is greater than 0.
		{pairList(0, -5, 0, 5), 4, nil}, {pairList(0, -5, 0, 5, 0, -6, 0, 6), 4, nil}, {pairList(-1000, 1000, 1000, -1000), 1999, nil},
		// A limit that is exactly how far a pair is from the offset, and one below it,
		// on both sides.
		{pairList(0, -5, 0, 5), 5, pairList(0, -5, 0, 5)}, {pairList(0, 0, 0, 5, 0, -5, 0, 0), 5, pairList(0, 0, 0, 5, 0, -5, 0, 0)}, {pairList(0, 0, 0, 5, 0, -5, 0, 0), 4, pairList(0, 0, 0, 0)}, {pairList(0, 0, 0, 0, 0, 9), 6, pairList(0, 0, 0, 0, 0, 9)}, {pairList(0, 0, 0, 0, 0, 9), 5, pairList(0, 0, 0, 0)}, {pairList(0, 0, 0, 0, 0, 9), 3, pairList(0, 0, 0, 0)}, {pairList(0, 0, 0, 0, 0, 9), 2, nil}, {pairList(0, 0, 0, 0, 9, 0), 6, pairList(0, 0, 0, 0, 9, 0)}, {pairList(0, 0, 0, 0, 9, 0), 5, pairList(0, 0, 0, 0)}, {pairList(0, 0, 0, 0, 9, 0), 2, nil},
		// The offset is that of all pairs, not of those that are kept, and it is rounded:
		// the mean of 0, 0, 0, 1, 1 and 9 is 11/6, and that of 0 and 1 is 1/2.
		{pairList(0, 0, 0, 0, 0, 0, 0, 1, 0, 1, 0, 9), 2, pairList(0, 0, 0, 0, 0, 0, 0, 1, 0, 1)}, {pairList(0, 0, 0, 0, 0, 0, 0, 1, 0, 1, 0, 9), 1, pairList(0, 1, 0, 1)}, {pairList(0, 0, 0, 0, 0, 0, 0, 1, 0, 1, 0, 9), 7, pairList(0, 0, 0, 0, 0, 0, 0, 1, 0, 1, 0, 9)}, {pairList(0, 0, 0, 1), 1, pairList(0, 0, 0, 1)},
		// The order of the kept pairs, equal ones among them.
		{pairList(5, 6, 1, 2, 900, -900, 5, 6, 3, 4, 1, 2), 400, pairList(5, 6, 1, 2, 5, 6, 3, 4, 1, 2)}, {pairList(900, -900, 3, 4, 1, 2, 3, 4, 2, 3, 0, 1), 400, pairList(3, 4, 1, 2, 3, 4, 2, 3, 0, 1)}, {pairList(2, 3, 1, 2, 3, 4, 1, 2, 2, 3, 900, -900), 400, pairList(2, 3, 1, 2, 3, 4, 1, 2, 2, 3)}, {pairList(2, 3, 1, 2, 3, 4, 1, 2, 2, 3, 900, -900), 2000, pairList(2, 3, 1, 2, 3, 4, 1, 2, 2, 3, 900, -900)},
		// Only the most distant pairs at the ends of the range.
		{append(samePairs(pair(-1000, 1000), 19), pair(1000, -1000)), 3800, append(samePairs(pair(-1000, 1000), 19), pair(1000, -1000))}, {append(samePairs(pair(-1000, 1000), 19), pair(1000, -1000)), 3799, samePairs(pair(-1000, 1000), 19)}, {append(samePairs(pair(1000, -1000), 19), pair(-1000, 1000)), 3799, samePairs(pair(1000, -1000), 19)}, {append(samePairs(pair(1000, -1000), 19), pair(-1000, 1000)), 200, samePairs(pair(1000, -1000), 19)}, {append(samePairs(pair(1000, -1000), 19), pair(-1000, 1000)), 199, nil},
		// A limit that keeps all, and the least and the greatest numbers.
		{fullPairs(), 4000, fullPairs()}, {fullPairs(), math.MaxInt, fullPairs()}, {pairList(0, -5, 0, 5), math.MaxInt - 1, pairList(0, -5, 0, 5)}, {pairList(3, 5), math.MinInt, nil}, {pairList(3, 5), math.MinInt + 1, nil},
		// A negative limit.
		{pairList(3, 5), -1, nil}, {fullPairs(), -1, nil}, {pairList(0, -5, 0, 5), -5, nil}, {pairList(0, -5, 0, 5), -6, nil},
		// Invalid pairs.
		{nil, 0, nil}, {[]impl.Pair{}, 5, nil}, {nil, -1, nil}, {samePairs(pair(3, 5), 21), 5, nil}, {pairList(3, 1001), 5, nil}, {pairList(3, 5, 1001, 7), 4000, nil}, {pairList(3, 5, -1001, 7, 3, 5), math.MaxInt, nil},
	} {
		if got := impl.WithoutOutliers(c.list, c.limit); !slices.Equal(got, c.want) {
			t.Errorf("WithoutOutliers(%v, %d) is %v, not %v", c.list, c.limit, got, c.want)
		}
	}
}

// Promise 84: exactly the pairs that are not farther from the offset than the limit
// are kept, in order.
func TestOnlyDistantPairsAreRemoved(t *testing.T) {
	eachPairList(func(list []impl.Pair) {
		offset := searchedOffset(list)
		for _, limit := range limitsFor(list) {
			got := impl.WithoutOutliers(list, limit)
			if !isPartOf(got, list) {
				t.Errorf("WithoutOutliers(%v, %d) is %v, which is not a part", list, limit, got)
			}
			if want := wantedWithout(list, offset, limit); !slices.Equal(got, want) {
				t.Errorf("WithoutOutliers(%v, %d) is %v, not %v", list, limit, got, want)
			}
		}
	})
}

// Promise 84. What a limit keeps is a part of what every larger one keeps.
func TestLargerLimitsKeepMore(t *testing.T) {
	eachPairList(func(list []impl.Pair) {
		var before []impl.Pair
		for _, limit := range limitsFor(list) {
			got := impl.WithoutOutliers(list, limit)
			if len(got) < len(before) || !isPartOf(before, got) {
				t.Errorf("WithoutOutliers(%v, %d) is %v, after %v for a smaller limit", list, limit, got, before)
			}
			before = got
		}
		if !slices.Equal(before, list) {
			t.Errorf("WithoutOutliers(%v, %d) is %v", list, math.MaxInt, before)
		}
	})
}

// Promise 84, for the limit 0, and by the program's own offset.
func TestPairsWithTheOffsetAreKept(t *testing.T) {
	eachPairList(func(list []impl.Pair) {
		offset := impl.FitOffset(list)
		var want []impl.Pair
		for _, p := range list {
			if p.True-p.Measured == offset {
				want = append(want, p)
			}
		}
		if got := impl.WithoutOutliers(list, 0); !slices.Equal(got, want) {
			t.Errorf("WithoutOutliers(%v, 0) is %v, not %v", list, got, want)
		}
		for _, limit := range limitsFor(list) {
			if got := impl.WithoutOutliers(list, limit); !isPartOf(want, got) {
				t.Errorf("WithoutOutliers(%v, %d) is %v, without some of %v", list, limit, got, want)
			}
		}
	})
}

// Promise 84, for every limit and one pair on either side of the offset.
func TestEveryLimit(t *testing.T) {
	for far := 0; far <= farOffset; far++ {
		list := slices.Concat(pairsApart(far), pairList(7, 7), pairsApart(-far), pairList(-7, -7))
		for limit := max(0, far-2); limit <= far+2; limit++ {
			want := pairList(7, 7, -7, -7)
			if limit >= far {
				want = list
			}
			if got := impl.WithoutOutliers(list, limit); !slices.Equal(got, want) {
				t.Errorf("WithoutOutliers(%v, %d) is %v, not %v", list, limit, got, want)
			}
		}
	}
}

// Promise 84, for negative limits and for invalid pairs.
func TestWithoutOutliersOfInvalidArguments(t *testing.T) {
	check := func(list []impl.Pair, limit int) {
		if got := impl.WithoutOutliers(list, limit); len(got) != 0 {
			t.Errorf("WithoutOutliers(%v, %d) is %v", list, limit, got)
		}
	}
	negative := []int{-1, -2, -farOffset, -2 * farOffset, -1 << 32, math.MinInt + 1, math.MinInt}
	eachPairList(func(list []impl.Pair) {
		for _, limit := range negative {
			check(list, limit)
		}
	})
	for _, list := range invalidPairLists() {
		for _, limit := range append(negative, 0, 1, farOffset, 2*farOffset, 1<<32, math.MaxInt-1, math.MaxInt) {
			check(list, limit)
		}
	}
}

// roomyPairs has spare capacity, which no function may write to.
func roomyPairs(list []impl.Pair) []impl.Pair {
	return append(slices.Clone(list), pairList(11, 1, 22, 2, 33, 3)...)[:len(list)]
}

// checkCalibrationMemory overwrites the pairs, and then one of three results, with
// its spare capacity. Nothing else may be affected.
func checkCalibrationMemory(t *testing.T, list []impl.Pair, limit int) {
	given := roomyPairs(list)
	before := slices.Clone(whole(given))
	impl.PairsValid(given)
	impl.FitOffset(given)
	impl.OffsetError(given, limit)
	impl.FitSlope(given)
	kept, first, last := impl.WithoutOutliers(given, limit), impl.WithoutOutliers(given, limit), impl.WithoutOutliers(given, limit)
	if !slices.Equal(whole(given), before) {
		t.Errorf("the argument %v is changed with the limit %d", list, limit)
	}
	want := slices.Clone(kept)
	fill(whole(first), pair(777, 777))
	if !slices.Equal(whole(given), before) {
		t.Errorf("the result of WithoutOutliers(%v, %d) shares memory with the argument", list, limit)
	}
	fill(whole(given), pair(7, 7))
	if !slices.Equal(kept, want) || !slices.Equal(last, want) || !slices.Equal(impl.WithoutOutliers(list, limit), want) {
		t.Errorf("two results of WithoutOutliers(%v, %d) share memory, or one with its argument", list, limit)
	}
	fill(whole(kept), pair(888, 888))
	fill(whole(last), pair(999, 999))
	if slices.ContainsFunc(whole(first), func(p impl.Pair) bool { return p != pair(777, 777) }) {
		t.Errorf("two results of WithoutOutliers(%v, %d) share memory", list, limit)
	}
}

// Promises 7 and 81 to 84. The list is left as it was.
func TestCalibrationsChangeAndShareNothing(t *testing.T) {
	lists := append(scatteredPairs(96), nil, fullPairs(), pairList(3, 5), pairList(0, 0, 0, 2), pairList(0, 0, 0, 0, 0, 9), pairList(5, 1, 1001, -1), samePairs(pair(3, 3), mostPairs+1))
	for _, list := range lists {
		for _, limit := range []int{-1, 0, 1, 4, 30, 500, 2000, 4000} {
			checkCalibrationMemory(t, list, limit)
		}
	}
}
