package tests

import (
	"slices"
	"testing"

	"loop.example/robotcell/impl"
)

const farOffset = 2 * mostMeasure

// offsetsAround are at the bounds of the range of an offset and inside it.
var offsetsAround = []int{-farOffset, -farOffset + 1, -mostMeasure, -3, -1, 0, 1, 2, mostMeasure + 1, farOffset - 1, farOffset}

// differencesOf are those from the measured to the true values.
func differencesOf(list []impl.Pair) []int {
	var differences []int
	for _, p := range list {
		differences = append(differences, p.True-p.Measured)
	}
	return differences
}

// pairsApart have the given differences, with measured values as far as possible
// from 0.
func pairsApart(differences ...int) []impl.Pair {
	var list []impl.Pair
	for k, d := range differences {
		list = append(list, pair(mostMeasure-max(d, 0), mostMeasure+min(d, 0)))
		if k%2 == 1 {
			list[k] = pair(-mostMeasure-min(d, 0), -mostMeasure+max(d, 0))
		}
	}
	return list
}

// isNearestMean compares without a division: from a number less one half, with the
// half, to the number plus one half, without it, all means are rounded to it.
func isNearestMean(list []impl.Pair, offset int) bool {
	n, sum := len(list), sumOf(differencesOf(list))
	return 2*n*offset-n <= 2*sum && 2*sum < 2*n*offset+n
}

func wantedError(list []impl.Pair, offset int) int {
	sum := 0
	for _, d := range differencesOf(list) {
		sum += (d - offset) * (d - offset)
	}
	return sum
}

func TestFitOffsetExamples(t *testing.T) {
	for _, c := range []struct {
		list []impl.Pair
		want int
	}{
		// One pair.
		{pairList(3, 5), 2}, {pairList(5, 3), -2}, {pairList(0, 0), 0}, {pairList(-7, -7), 0}, {pairList(-1, 1), 2}, {pairList(1, -1), -2},
		// Whole means, and differences that are all equal.
		{pairList(0, 1, 0, 3), 2}, {pairList(0, -1, 0, -3), -2}, {pairList(0, 5, 0, -5), 0}, {pairList(1, 4, 2, 5, 3, 6), 3}, {pairList(4, 1, 5, 2, 6, 3), -3},
		// In the middle between two numbers.
		{pairList(0, 0, 0, 1), 1}, {pairList(0, 0, 0, -1), 0}, {pairList(1, 3, 2, 5), 3}, {pairList(3, 1, 5, 2), -2}, {pairList(0, 3, 0, 4), 4}, {pairList(0, -3, 0, -4), -3},
		{pairList(0, 0, 0, 0, 0, 1, 0, 1), 1}, {pairList(0, 0, 0, 0, 0, -1, 0, -1), 0}, {pairList(0, 9, 0, 0, 0, 0, 0, 1), 3}, {pairList(9, 0, 0, 0, 0, 0, 1, 0), -2},
		// One part below and above the middle.
		{pairList(0, 0, 0, 0, 0, 0, 0, 1), 0}, {pairList(0, 0, 0, 1, 0, 1, 0, 1), 1}, {pairList(0, 0, 0, 0, 0, 0, 0, -1), 0}, {pairList(0, 0, 0, -1, 0, -1, 0, -1), -1},
		{pairList(0, 9, 0, 0, 0, 0, 0, 0), 2}, {pairList(0, 9, 0, 2, 0, 0, 0, 0), 3}, {pairList(9, 0, 0, 0, 0, 0, 0, 0), -2}, {pairList(9, 0, 2, 0, 0, 0, 0, 0), -3},
		{pairList(0, 1, 0, 0, 0, 0), 0}, {pairList(0, 1, 0, 1, 0, 0), 1}, {pairList(1, 0, 0, 0, 0, 0), 0}, {pairList(1, 0, 1, 0, 0, 0), -1},
		// The greatest and the least means, and those next to them.
		{pairList(-1000, 1000), 2000}, {pairList(1000, -1000), -2000}, {samePairs(pair(-1000, 1000), 20), 2000}, {samePairs(pair(1000, -1000), 20), -2000},
		{pairList(-1000, 1000, -1000, 999), 2000}, {pairList(1000, -1000, 999, -1000), -1999}, {pairList(-1000, 1000, -1000, 1000, -1000, 998), 1999}, {pairList(1000, -1000, 1000, -1000, 1000, -998), -1999},
		{append(samePairs(pair(-1000, 1000), 19), pair(1000, -1000)), 1800}, {append(samePairs(pair(1000, -1000), 19), pair(-1000, 1000)), -1800},
		// Invalid pairs.
		{nil, 0}, {[]impl.Pair{}, 0}, {samePairs(pair(3, 5), 21), 0}, {pairList(3, 1001), 0}, {pairList(3, 5, 1001, 7), 0}, {pairList(3, 5, -1001, 7, 3, 5), 0},
	} {
		if got := impl.FitOffset(c.list); got != c.want {
			t.Errorf("FitOffset(%v) is %d, not %d", c.list, got, c.want)
		}
	}
}

// Promise 7: of all offsets, none has a smaller error, and of two with the same one
// the greater is taken.
func TestOffsetsAreTheBestOnes(t *testing.T) {
	eachPairList(func(list []impl.Pair) {
		got := impl.FitOffset(list)
		if !isNearestMean(list, got) {
			t.Errorf("FitOffset(%v) is %d", list, got)
		}
		least := wantedError(list, got)
		for offset := -farOffset; offset <= farOffset; offset += 1 + min(absolute(offset-got), farOffset)/8 {
			if sum := wantedError(list, offset); sum < least || sum == least && offset > got {
				t.Fatalf("FitOffset(%v) is %d with the error %d, and %d has %d", list, got, least, offset, sum)
			}
		}
	})
}

// Promise 7, with the program's own errors, for every offset.
func TestNoOffsetHasASmallerError(t *testing.T) {
	for _, list := range append(scatteredPairs(160), fullPairs(), pairList(0, 0, 0, 1), pairList(0, 0, 0, -1), pairList(-1000, 1000), samePairs(pair(1000, -1000), mostPairs)) {
		best := impl.FitOffset(list)
		least := impl.OffsetError(list, best)
		for offset := -farOffset; offset <= farOffset; offset++ {
			if sum := impl.OffsetError(list, offset); sum < least || sum == least && offset > best {
				t.Fatalf("FitOffset(%v) is %d with the error %d, and %d has %d", list, best, least, offset, sum)
			}
		}
	}
}

// Promise 7, for every number of pairs and every fraction with it as its
// denominator, as the mean of positive and of negative differences.
func TestMeansAreRoundedToTheNearest(t *testing.T) {
	for n := 1; n <= mostPairs; n++ {
		for _, whole := range []int{-2000, -1999, -1000, -2, -1, 0, 1, 7, 999, 1998, 1999} {
			for more := 0; more <= n; more++ {
				list := pairsApart(append(repeated(whole, n-more), repeated(whole+1, more)...)...)
				want := whole
				if 2*more >= n {
					want++
				}
				if got := impl.FitOffset(list); got != want {
					t.Errorf("FitOffset of a mean of %d and %d/%d is %d", whole, more, n, got)
				}
			}
		}
	}
}

// Promise 7: the offset is shifted with the true values, and against the measured
// ones.
func TestOffsetsAreShifted(t *testing.T) {
	eachPairList(func(list []impl.Pair) {
		want := impl.FitOffset(list)
		for _, by := range []int{-2000, -500, -2, -1, 1, 2, 33, 1000, 2000} {
			if other := shiftedPairs(list, 0, by); impl.PairsValid(other) && impl.FitOffset(other) != want+by {
				t.Errorf("FitOffset(%v) is %d, and %d with true values that are shifted by %d", list, want, impl.FitOffset(other), by)
			}
			if other := shiftedPairs(list, by, 0); impl.PairsValid(other) && impl.FitOffset(other) != want-by {
				t.Errorf("FitOffset(%v) is %d, and %d with measured values that are shifted by %d", list, want, impl.FitOffset(other), by)
			}
			if other := shiftedPairs(list, by, by); impl.PairsValid(other) && impl.FitOffset(other) != want {
				t.Errorf("FitOffset(%v) is %d, and %d with both values shifted by %d", list, want, impl.FitOffset(other), by)
			}
		}
	})
}

// Promise 7. The order of the pairs has no effect, nor has it if each occurs twice.
func TestOffsetsDoNotDependOnTheOrder(t *testing.T) {
	eachPairList(func(list []impl.Pair) {
		want := impl.FitOffset(list)
		back := slices.Clone(list)
		slices.Reverse(back)
		if got := impl.FitOffset(back); got != want {
			t.Errorf("FitOffset(%v) is %d, and %d in the reversed order", list, want, got)
		}
		if twice := append(back, list...); len(twice) <= mostPairs && impl.FitOffset(twice) != want {
			t.Errorf("FitOffset(%v) is %d, and %d if each pair occurs twice", list, want, impl.FitOffset(twice))
		}
	})
}

// Promise 7.
func TestFitOffsetOfInvalidPairs(t *testing.T) {
	for _, list := range invalidPairLists() {
		if got := impl.FitOffset(list); got != 0 {
			t.Errorf("FitOffset(%v) is %d", list, got)
		}
	}
}

func TestOffsetErrorExamples(t *testing.T) {
	for _, c := range []struct {
		list   []impl.Pair
		offset int
		want   int
	}{
		{pairList(1, 3, 2, 5), 3, 1}, {pairList(1, 3, 2, 5), 2, 1}, {pairList(1, 3, 2, 5), 0, 13}, {pairList(1, 3, 2, 5), -1, 25}, {pairList(1, 3, 2, 5), 4, 5},
		// Offsets that all pairs have.
		{pairList(3, 5), 2, 0}, {pairList(5, 3), -2, 0}, {pairList(0, 0), 0, 0}, {pairList(1, 4, 2, 5, -3, 0), 3, 0}, {pairList(4, 1, 5, 2, 0, -3), -3, 0}, {samePairs(pair(-1000, 1000), 20), 2000, 0}, {samePairs(pair(1000, -1000), 20), -2000, 0},
		// One beside such an offset, and one pair without it.
		{pairList(3, 5), 1, 1}, {pairList(3, 5), 3, 1}, {pairList(1, 4, 2, 5, -3, 0), 4, 3}, {pairList(1, 4, 2, 5, -3, 0), 2, 3}, {pairList(1, 4, 2, 6, -3, 0), 3, 1}, {pairList(1, 4, 2, 5, -3, -1), 3, 1}, {samePairs(pair(7, 7), 20), 1, 20},
		// Errors on both sides do not cancel.
		{pairList(0, 5, 0, -5), 0, 50}, {pairList(0, 1, 0, -1, 1, 0, -1, 0), 0, 4},
		// Offsets at the ends of their range, and one beyond each.
		{pairList(0, 0), 2000, 4000000}, {pairList(0, 0), -2000, 4000000}, {pairList(0, 0), 2001, -1}, {pairList(0, 0), -2001, -1}, {pairList(-1000, 1000), 2000, 0}, {pairList(-1000, 1000), 2001, -1}, {pairList(1000, -1000), -2000, 0}, {pairList(1000, -1000), -2001, -1},
		// The greatest errors.
		{pairList(-1000, 1000), -2000, 16000000}, {pairList(1000, -1000), 2000, 16000000}, {samePairs(pair(-1000, 1000), 20), -2000, 320000000}, {samePairs(pair(1000, -1000), 20), 2000, 320000000}, {samePairs(pair(-1000, 1000), 20), -1999, 319840020}, {append(samePairs(pair(1000, -1000), 19), pair(999, -1000)), 2000, 319992001},
		// Invalid pairs, with valid and invalid offsets.
		{nil, 0, -1}, {[]impl.Pair{}, 0, -1}, {nil, 2001, -1}, {samePairs(pair(3, 5), 21), 2, -1}, {samePairs(pair(3, 5), 21), -2001, -1}, {pairList(3, 1001), 998, -1}, {pairList(3, 5, 1001, 7), 2, -1}, {pairList(3, 5, -1001, 7, 3, 5), 2, -1}, {pairList(-1001, 1000), 2001, -1},
	} {
		if got := impl.OffsetError(c.list, c.offset); got != c.want {
			t.Errorf("OffsetError(%v, %d) is %d, not %d", c.list, c.offset, got, c.want)
		}
	}
}

// offsetsFor are those of the pairs, numbers beside them, and the bounds.
func offsetsFor(list []impl.Pair) []int {
	offsets := slices.Clone(offsetsAround)
	for _, d := range differencesOf(list) {
		offsets = append(offsets, d-1, d, d+1)
	}
	return bounds(-farOffset, farOffset, offsets...)
}

// Promise 82: the error is the sum of the squares, and 0 only for an offset that
// all pairs have.
func TestErrorsAreSumsOfSquares(t *testing.T) {
	eachPairList(func(list []impl.Pair) {
		differences := differencesOf(list)
		for _, offset := range offsetsFor(list) {
			got := impl.OffsetError(list, offset)
			if want := wantedError(list, offset); got != want {
				t.Errorf("OffsetError(%v, %d) is %d, not %d", list, offset, got, want)
			}
			if (got == 0) != isFilled(differences, offset) {
				t.Errorf("OffsetError(%v, %d) is %d", list, offset, got)
			}
		}
	})
}

// Promise 82, for every way to cut the list.
func TestErrorsOfPartsAddUp(t *testing.T) {
	eachPairList(func(list []impl.Pair) {
		for _, offset := range []int{-farOffset, -1, 0, 5, farOffset, impl.FitOffset(list)} {
			all := impl.OffsetError(list, offset)
			for k := 1; k < len(list); k++ {
				first, second := impl.OffsetError(list[:k], offset), impl.OffsetError(list[k:], offset)
				if first < 0 || second < 0 || first+second != all {
					t.Errorf("OffsetError(%v, %d) is %d, and %d and %d for its parts", list, offset, all, first, second)
				}
			}
		}
	})
}

// Promise 82, for every offset and pairs with each of them.
func TestErrorsForEveryOffset(t *testing.T) {
	for offset := -farOffset; offset <= farOffset; offset++ {
		for _, n := range []int{1, 2, mostPairs} {
			if got := impl.OffsetError(pairsApart(repeated(offset, n)...), offset); got != 0 {
				t.Errorf("OffsetError of %d pairs with the offset %d is %d", n, offset, got)
			}
			if got := impl.OffsetError(samePairs(pair(0, 0), n), offset); got != n*offset*offset {
				t.Errorf("OffsetError of %d pairs without an offset is %d for %d", n, got, offset)
			}
		}
	}
}

// Promise 82, for valid and for invalid pairs.
func TestOffsetErrorOfInvalidArguments(t *testing.T) {
	wrong := outOf(-farOffset, farOffset)
	eachPairList(func(list []impl.Pair) {
		for _, offset := range wrong {
			if got := impl.OffsetError(list, offset); got != -1 {
				t.Errorf("OffsetError(%v, %d) is %d", list, offset, got)
			}
		}
	})
	for _, list := range invalidPairLists() {
		for _, offset := range append(offsetsAround, wrong...) {
			if got := impl.OffsetError(list, offset); got != -1 {
				t.Errorf("OffsetError(%v, %d) is %d", list, offset, got)
			}
		}
	}
}
