package tests

import (
	"slices"
	"testing"

	"loop.example/robotcell/impl"
)

const (
	mostPairs   = impl.MaxPairs
	mostMeasure = impl.MaxMeasure
)

// measuresAround are at the bounds of the range of a value and inside it.
var measuresAround = []int{-mostMeasure, -mostMeasure + 1, -77, -1, 0, 1, 7, mostMeasure - 1, mostMeasure}

func pair(measured int, value int) impl.Pair {
	return impl.Pair{Measured: measured, True: value}
}

// pairList has the pairs with the given measured and true values, in turn.
func pairList(numbers ...int) []impl.Pair {
	var list []impl.Pair
	for k := 0; k+1 < len(numbers); k += 2 {
		list = append(list, pair(numbers[k], numbers[k+1]))
	}
	return list
}

func samePairs(p impl.Pair, n int) []impl.Pair {
	return slices.Repeat([]impl.Pair{p}, n)
}

// shiftedPairs have other measured and other true values.
func shiftedPairs(list []impl.Pair, measured int, value int) []impl.Pair {
	var other []impl.Pair
	for _, p := range list {
		other = append(other, pair(p.Measured+measured, p.True+value))
	}
	return other
}

// badPairs have one value, or both, out of range.
func badPairs() []impl.Pair {
	var list []impl.Pair
	for _, n := range outOf(-mostMeasure, mostMeasure) {
		for _, m := range measuresAround {
			list = append(list, pair(n, m), pair(m, n))
		}
		list = append(list, pair(n, n), pair(n, mostMeasure+1), pair(-mostMeasure-1, n))
	}
	return list
}

// fullPairs are as many as are possible, with the bounds of both ranges.
func fullPairs() []impl.Pair {
	return pairList(
		-1000, -1000, 1000, 1000, -1000, 1000, 1000, -1000, 0, 0, 1, -1, -1, 1, 7, 7, 999, -999, -999, 999,
		500, 501, 501, 500, 0, 0, 12, 34, -12, -34, 1000, 0, 0, 1000, -1000, 0, 0, -1000, 3, 5,
	)
}

// scatteredPairs have 1 to mostPairs pairs each, with values of either sign, large
// and small, that follow no simple rule. In every second list the true values
// are near the measured ones, up to an offset.
func scatteredPairs(n int) [][]impl.Pair {
	var lists [][]impl.Pair
	for k, points := range scatteredLists(n, mostPairs) {
		var list []impl.Pair
		for _, p := range points {
			measured, value := p.X%(mostMeasure+1), p.Y%(mostMeasure+1)
			if k%2 == 1 {
				value = max(-mostMeasure, min(measured+value/16+k%50, mostMeasure))
			}
			list = append(list, pair(measured, value))
		}
		lists = append(lists, list)
	}
	return lists
}

// eachPairList calls a function with valid pairs: all short lists of the bounds and
// of small numbers, long lists of equal pairs, and scattered ones.
func eachPairList(call func(list []impl.Pair)) {
	eachListOf(pairList(-1000, -1000, -1000, 1000, 1000, -1000, 1000, 1000, 0, 0, 999, -1000), 3, call)
	eachListOf(pairList(0, 0, 0, 1, 1, 0, -1, 2, 2, -1, 3, 3, -2, -5), 4, call)
	for n := 1; n <= mostPairs; n++ {
		for _, p := range pairList(0, 0, -1000, 1000, 1000, -1000, 1000, 1000, -7, 3) {
			call(samePairs(p, n))
		}
		call(fullPairs()[:n])
	}
	for _, list := range scatteredPairs(960) {
		call(list)
	}
}

// invalidPairLists have no pairs, too many, or an invalid one at each place.
func invalidPairLists() [][]impl.Pair {
	lists := [][]impl.Pair{nil, {}, make([]impl.Pair, 0, 8), fullPairs()[:0], append(fullPairs(), pair(0, 0)), append(fullPairs(), fullPairs()...)}
	for _, n := range []int{mostPairs + 1, mostPairs + 2, 2 * mostPairs, 1000} {
		lists = append(lists, samePairs(pair(0, 0), n), samePairs(pair(3, 5), n), samePairs(pair(-1000, 1000), n), samePairs(badPairs()[0], n))
	}
	for _, bad := range badPairs() {
		for _, n := range []int{1, 2, 3, mostPairs} {
			for k := range n {
				list := fullPairs()[:n]
				list[k] = bad
				lists = append(lists, list)
			}
			lists = append(lists, samePairs(bad, n))
		}
	}
	return lists
}

func TestCalibrationConstants(t *testing.T) {
	if impl.MaxPairs != 20 || impl.MaxMeasure != 1000 {
		t.Fatalf("MaxPairs and MaxMeasure are %d and %d", impl.MaxPairs, impl.MaxMeasure)
	}
}

func TestPairsValidExamples(t *testing.T) {
	for _, c := range []struct {
		list []impl.Pair
		want bool
	}{
		// No pairs, and one.
		{nil, false}, {[]impl.Pair{}, false}, {[]impl.Pair{{}}, true}, {pairList(3, 5), true}, {pairList(-3, -5), true},
		// Each value at its bounds, and one beyond each.
		{pairList(1000, 0), true}, {pairList(-1000, 0), true}, {pairList(0, 1000), true}, {pairList(0, -1000), true},
		{pairList(1001, 0), false}, {pairList(-1001, 0), false}, {pairList(0, 1001), false}, {pairList(0, -1001), false},
		// Both at a bound, or one beyond.
		{pairList(1000, 1000), true}, {pairList(1000, -1000), true}, {pairList(-1000, 1000), true}, {pairList(-1000, -1000), true},
		{pairList(1000, 1001), false}, {pairList(1001, 1000), false}, {pairList(-1000, -1001), false}, {pairList(-1001, -1000), false}, {pairList(1001, -1001), false}, {pairList(-1001, 1001), false},
		// Some pairs, equal ones too, in any order.
		{pairList(1, 3, 2, 5), true}, {pairList(2, 5, 1, 3), true}, {pairList(7, 7, 7, 7, 7, 7), true}, {pairList(7, 1, 7, 2, 7, 3), true},
		// As many pairs as are possible, and one more.
		{samePairs(pair(0, 0), 20), true}, {samePairs(pair(0, 0), 21), false}, {fullPairs(), true},
		// An invalid pair at the begin, in the middle and at the end.
		{pairList(1001, 0, 1, 1, 2, 2), false}, {pairList(1, 1, -1001, 0, 2, 2), false}, {pairList(1, 1, 2, 2, 1001, 0), false},
		{pairList(0, 1001, 1, 1, 2, 2), false}, {pairList(1, 1, 0, -1001, 2, 2), false}, {pairList(1, 1, 2, 2, 0, 1001), false},
	} {
		if got := impl.PairsValid(c.list); got != c.want {
			t.Errorf("PairsValid(%v) is %v", c.list, got)
		}
	}
}

// Promise 81, for every value in its range and a few beyond it, in the first, a
// middle and the last pair.
func TestPairsHaveBoundedValues(t *testing.T) {
	values := outOf(-mostMeasure, mostMeasure)
	for n := -mostMeasure - 20; n <= mostMeasure+20; n++ {
		values = append(values, n)
	}
	for _, n := range values {
		want := n >= -mostMeasure && n <= mostMeasure
		for _, m := range measuresAround {
			for _, list := range [][]impl.Pair{
				pairList(n, m), pairList(m, n), pairList(n, m, 1, 2), pairList(1, 2, m, n), pairList(1, 2, n, m, 3, 4), pairList(m, n, 1, 2, 3, 4),
			} {
				if got := impl.PairsValid(list); got != want {
					t.Errorf("PairsValid(%v) is %v", list, got)
				}
			}
		}
	}
}

// Promise 81.
func TestPairsValidOfLongLists(t *testing.T) {
	for _, n := range []int{0, 1, 2, mostPairs - 1, mostPairs, mostPairs + 1, mostPairs + 2, 2 * mostPairs, 10 * mostPairs, 100000} {
		for _, measured := range measuresAround {
			for _, value := range measuresAround {
				if got := impl.PairsValid(samePairs(pair(measured, value), n)); got != (n >= 1 && n <= mostPairs) {
					t.Errorf("PairsValid of %d pairs is %v", n, got)
				}
			}
		}
	}
}

// Promise 81, for an invalid pair at each place.
func TestPairsValidOfInvalidPairs(t *testing.T) {
	for _, list := range invalidPairLists() {
		if impl.PairsValid(list) {
			t.Errorf("PairsValid(%v) is true", list)
		}
	}
}

// Promise 81, for all parts of valid pairs. The part without any is not valid.
func TestPartsOfPairsAreValid(t *testing.T) {
	for _, list := range [][]impl.Pair{fullPairs()[:10], fullPairs()[10:], pairList(1, 3, 2, 5), samePairs(pair(1000, -1000), 8)} {
		eachPart(list, func(part []impl.Pair) {
			if got := impl.PairsValid(part); got != (len(part) > 0) {
				t.Errorf("PairsValid of the part %v of valid pairs is %v", part, got)
			}
		})
	}
	eachPairList(func(list []impl.Pair) {
		if !impl.PairsValid(list) || !impl.PairsValid(list[:1]) || !impl.PairsValid(list[len(list)-1:]) || impl.PairsValid(list[:0]) {
			t.Errorf("PairsValid is not right for parts of %v", list)
		}
		for k := range list {
			if part := slices.Delete(slices.Clone(list), k, k+1); impl.PairsValid(part) != (len(part) > 0) {
				t.Errorf("PairsValid(%v) is wrong", part)
			}
		}
	})
}
