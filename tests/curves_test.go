package tests

import (
	"math/big"
	"slices"
	"testing"

	"loop.example/robotcell/impl"
)

const (
	parts       = impl.CurveParts
	mostControl = impl.MaxControls
)

// divisors are those of CurveParts, in ascending order.
var divisors = []int{1, 2, 4, 8, 16, 32, 64}

// pointsOf makes a list of points of alternating X and Y.
func pointsOf(coordinates ...int) []impl.Point {
	var list []impl.Point
	for k := 0; k+1 < len(coordinates); k += 2 {
		list = append(list, point(coordinates[k], coordinates[k+1]))
	}
	return list
}

func repeatedPoint(p impl.Point, n int) []impl.Point {
	return slices.Repeat([]impl.Point{p}, n)
}

func reversedPoints(list []impl.Point) []impl.Point {
	other := slices.Clone(list)
	slices.Reverse(other)
	return other
}

// eachListOf calls a function with all lists of 1 to most of the given elements,
// also those with equal elements.
func eachListOf[T any](elements []T, most int, call func(list []T)) {
	lists := [][]T{nil}
	for range most {
		var longer [][]T
		for _, list := range lists {
			for _, e := range elements {
				longer = append(longer, append(slices.Clone(list), e))
			}
		}
		lists = longer
		for _, list := range lists {
			call(list)
		}
	}
}

// scatteredLists have 1 to most points each, with coordinates of either sign,
// large and small, that follow no simple rule.
func scatteredLists(n int, most int) [][]impl.Point {
	next := 1
	coordinate := func(bound int) int {
		next = next * 48271 % 2147483647
		return next%(2*bound+1) - bound
	}
	var lists [][]impl.Point
	for k := range n {
		bound := []int{3, 70, 1000, greatest}[k/most%4]
		var list []impl.Point
		for range k%most + 1 {
			list = append(list, point(coordinate(bound), coordinate(bound)))
		}
		lists = append(lists, list)
	}
	return lists
}

func scatteredCurves() [][]impl.Point {
	return scatteredLists(400, mostControl)
}

// eachCurve calls a function with valid curves: all curves of the corners and
// the middle of the range of the coordinates, all curves of small points, which
// include those with equal control points, and scattered ones.
func eachCurve(call func(list []impl.Point)) {
	eachListOf(pointsOf(-greatest, -greatest, greatest, -greatest, -greatest, greatest, greatest, greatest, 0, 0), mostControl, call)
	eachListOf(pointsOf(-3, 1, -1, 2, 0, -2, 1, 0, 2, -1), mostControl, call)
	for _, list := range scatteredCurves() {
		call(list)
	}
}

// badPoints are a few of the invalid ones, for tests that try many places.
var badPoints = []impl.Point{
	point(greatest+1, 0), point(-greatest-1, 0), point(0, greatest+1), point(0, -greatest-1),
	point(beyond[0], beyond[0]), point(beyond[len(beyond)-1], 1), point(1, beyond[len(beyond)-1]),
}

// invalidCurves have no or too many control points, or invalid ones at one or
// at all places.
func invalidCurves() [][]impl.Point {
	lists := [][]impl.Point{nil, {}, make([]impl.Point, 0, 8), pointsOf(1, 2, 3, 4)[:0]}
	for n := mostControl + 1; n <= mostControl+4; n++ {
		lists = append(lists, repeatedPoint(point(3, -4), n), make([]impl.Point, n))
	}
	lists = append(lists, repeatedPoint(point(3, -4), 10000))
	for n := 1; n <= mostControl+1; n++ {
		for _, bad := range invalidPoints() {
			for k := range n {
				list := repeatedPoint(point(5, 6), n)
				list[k] = bad
				lists = append(lists, list)
			}
			lists = append(lists, repeatedPoint(bad, n))
		}
	}
	return lists
}

func TestCurveConstants(t *testing.T) {
	if impl.MaxControls != 4 || impl.CurveParts != 64 {
		t.Fatalf("MaxControls and CurveParts are %d and %d", impl.MaxControls, impl.CurveParts)
	}
}

func TestCurveValidExamples(t *testing.T) {
	for _, c := range []struct {
		list []impl.Point
		want bool
	}{
		{nil, false},
		{[]impl.Point{}, false},
		{pointsOf(0, 0), true},
		{pointsOf(1, 2, 3, 4), true},
		{pointsOf(1, 2, 3, 4, 5, 6), true},
		{pointsOf(1, 2, 3, 4, 5, 6, 7, 8), true},
		{pointsOf(1, 2, 3, 4, 5, 6, 7, 8, 9, 10), false},
		{pointsOf(7, 7, 7, 7, 7, 7, 7, 7), true},
		{pointsOf(-greatest, -greatest), true},
		{pointsOf(greatest, greatest), true},
		{pointsOf(-greatest, greatest, greatest, -greatest, greatest, greatest, -greatest, -greatest), true},
		{pointsOf(greatest+1, 0), false},
		{pointsOf(0, -greatest-1), false},
		{pointsOf(0, 0, greatest, greatest+1), false},
		{pointsOf(-greatest-1, 0, 0, 0, 0, 0), false},
		{pointsOf(0, 0, 0, 0, 0, 0, 0, greatest+1), false},
	} {
		if got := impl.CurveValid(c.list); got != c.want {
			t.Errorf("CurveValid(%v) is %v", c.list, got)
		}
	}
}

// Promise 44.
func TestCurvesHaveControlPoints(t *testing.T) {
	eachCurve(func(list []impl.Point) {
		for from := range list {
			if impl.CurveValid(list[from:from]) {
				t.Errorf("the empty part of %v is valid", list)
			}
			for to := from + 1; to <= len(list); to++ {
				if !impl.CurveValid(list[from:to]) {
					t.Errorf("CurveValid(%v) is false", list[from:to])
				}
			}
			if rest := slices.Delete(slices.Clone(list), from, from+1); impl.CurveValid(rest) != (len(list) > 1) {
				t.Errorf("CurveValid(%v) is %v", rest, len(list) <= 1)
			}
		}
	})
}

// Promise 44, for invalid curves.
func TestInvalidCurves(t *testing.T) {
	for _, list := range invalidCurves() {
		if impl.CurveValid(list) {
			t.Errorf("a curve with %d control points is valid: %v", len(list), list[:min(len(list), 8)])
		}
	}
}

// Promise 44. What lies behind the end of a list is no control point.
func TestSpareCapacityIsNoControlPoint(t *testing.T) {
	full := pointsOf(1, 2, 3, 4, 5, 6, 7, 8, greatest+1, 0, 0, -greatest-1)
	for n := range full {
		if got := impl.CurveValid(full[:n]); got != (1 <= n && n <= mostControl) {
			t.Errorf("CurveValid of the first %d points is %v", n, got)
		}
	}
	if !impl.CurveValid(append(pointsOf(1, 2), badPoints...)[:1]) {
		t.Error("a curve with a valid control point is invalid")
	}
}

func TestCurvePointExamples(t *testing.T) {
	for _, c := range []struct {
		list []impl.Point
		t    int
		want impl.Point
	}{
		{pointsOf(0, 0, 10, 20), 32, point(5, 10)},
		{pointsOf(10, 20), 7, point(10, 20)},
		{pointsOf(0, 0, 10, 20), 65, point(0, 0)},
		// Halves go upwards on either side of 0.
		{pointsOf(0, 0, 1, -1), 32, point(1, 0)},
		{pointsOf(0, 0, 3, -3), 32, point(2, -1)},
		{pointsOf(-1, -2, -2, -1), 32, point(-1, -1)},
		{pointsOf(0, 0, 32, -32), 1, point(1, 0)},
		{pointsOf(0, 0, 31, -31), 1, point(0, 0)},
		{pointsOf(0, 0, 33, -33), 1, point(1, -1)},
		{pointsOf(32, -32, 0, 0), 63, point(1, 0)},
		{pointsOf(-9, 9, 23, -23), 1, point(-8, 9)},
		// Three control points count 1, 2 and 1 fourths in the middle.
		{pointsOf(0, 0, 64, 0, 64, 64), 32, point(48, 16)},
		{pointsOf(0, 0, 0, 0, 2, -2), 32, point(1, 0)},
		{pointsOf(0, 0, 1, -1, 0, 0), 32, point(1, 0)},
		{pointsOf(0, 0, 0, 0, 1, -1), 32, point(0, 0)},
		{pointsOf(0, 0, 0, 0, 3, -3), 32, point(1, -1)},
		{pointsOf(0, 0, 2048, -2048, 0, 0), 1, point(63, -63)},
		// Four control points count 1, 3, 3 and 1 eighths in the middle.
		{pointsOf(0, 0, 0, 8, 8, 8, 8, 0), 32, point(4, 6)},
		{pointsOf(0, 0, 0, 0, 0, 0, 4, -4), 32, point(1, 0)},
		{pointsOf(0, 0, 0, 0, 0, 0, 3, -3), 32, point(0, 0)},
		{pointsOf(0, 0, 0, 0, 0, 0, 5, -5), 32, point(1, -1)},
		{pointsOf(4, 4, 0, 0, 0, 0, 0, -8), 32, point(1, 0)},
		// 27, 27, 9 and 1 sixty-fourths.
		{pointsOf(64, 0, 0, 64, 0, 0, 64, -64), 16, point(28, 26)},
		{pointsOf(64, 0, 0, 0, 0, -64, 0, 0), 48, point(1, -27)},
		{pointsOf(-greatest, greatest, greatest, -greatest), 32, point(0, 0)},
		{pointsOf(-greatest, greatest, greatest, -greatest), 1, point(-9687, 9688)},
		{pointsOf(greatest, -greatest, greatest, -greatest, greatest, -greatest, greatest, -greatest), 21, point(greatest, -greatest)},
		// A wrong parameter, or a wrong curve.
		{pointsOf(3, 4, 5, 6), -1, point(0, 0)},
		{pointsOf(3, 4), 65, point(0, 0)},
		{pointsOf(3, 4), -1, point(0, 0)},
		{nil, 0, point(0, 0)},
		{pointsOf(3, 4, 3, 4, 3, 4, 3, 4, 3, 4), 0, point(0, 0)},
		{pointsOf(3, 4, greatest+1, 4), 0, point(0, 0)},
		{pointsOf(3, -greatest-1, 3, 4), 64, point(0, 0)},
	} {
		if got := impl.CurvePoint(c.list, c.t); got != c.want {
			t.Errorf("CurvePoint(%v, %d) is %v, not %v", c.list, c.t, got, c.want)
		}
	}
}

// bernstein are the shares of n control points at t, as numbers of which all
// together are CurveParts to the power of n - 1.
func bernstein(n int, t int) []int {
	shares := []int{1}
	for len(shares) < n {
		next := make([]int, len(shares)+1)
		for k, share := range shares {
			next[k] += share * (parts - t)
			next[k+1] += share * t
		}
		shares = next
	}
	return shares
}

// isNearest reports whether c is at most a half above sum / scale, and less
// than a half below it.
func isNearest(c int, sum int, scale int) bool {
	return 2*c*scale-scale <= 2*sum && 2*sum < 2*c*scale+scale
}

// isOnCurve compares with the sum of all control points times their shares,
// which needs no neighbours and no repetition.
func isOnCurve(p impl.Point, list []impl.Point, t int) bool {
	x, y, scale := 0, 0, 0
	for k, share := range bernstein(len(list), t) {
		x += share * list[k].X
		y += share * list[k].Y
		scale += share
	}
	return isNearest(p.X, x, scale) && isNearest(p.Y, y, scale)
}

// inBoxOf compares with every point, without BoxOf.
func inBoxOf(p impl.Point, list []impl.Point) bool {
	var left, right, below, above bool
	for _, q := range list {
		left, right = left || q.X <= p.X, right || q.X >= p.X
		below, above = below || q.Y <= p.Y, above || q.Y >= p.Y
	}
	return left && right && below && above
}

// near reports whether two points differ by at most 1 in every coordinate.
func near(a impl.Point, b impl.Point) bool {
	return absolute(a.X-b.X) <= 1 && absolute(a.Y-b.Y) <= 1
}

// Promise 45.
func TestCurvesBeginAndEndAtTheirControlPoints(t *testing.T) {
	eachCurve(func(list []impl.Point) {
		first, last := impl.CurvePoint(list, 0), impl.CurvePoint(list, parts)
		if first != list[0] || last != list[len(list)-1] {
			t.Errorf("the curve %v begins at %v and ends at %v", list, first, last)
		}
		back := reversedPoints(list)
		for k := 0; k <= parts; k++ {
			got := impl.CurvePoint(list, k)
			if !isOnCurve(got, list, k) {
				t.Errorf("CurvePoint(%v, %d) is %v", list, k, got)
			}
			if !inBoxOf(got, list) {
				t.Errorf("CurvePoint(%v, %d) is %v, out of the box", list, k, got)
			}
			if other := impl.CurvePoint(back, parts-k); !near(got, other) {
				t.Errorf("CurvePoint(%v, %d) is %v, but %v in reverse", list, k, got, other)
			}
		}
	})
}

// roundedRatio is the nearest whole number, halves upwards.
func roundedRatio(r *big.Rat) int {
	sum := new(big.Rat).Add(r, big.NewRat(1, 2))
	return int(new(big.Int).Div(sum.Num(), sum.Denom()).Int64())
}

// repeatedly replaces neighbouring coordinates as the chapter says, in fractions.
func repeatedly(list []int, t int) int {
	var ratios []*big.Rat
	for _, c := range list {
		ratios = append(ratios, big.NewRat(int64(c), 1))
	}
	p, q := big.NewRat(int64(parts-t), parts), big.NewRat(int64(t), parts)
	for len(ratios) > 1 {
		var next []*big.Rat
		for k := range len(ratios) - 1 {
			a, b := new(big.Rat).Mul(p, ratios[k]), new(big.Rat).Mul(q, ratios[k+1])
			next = append(next, a.Add(a, b))
		}
		ratios = next
	}
	return roundedRatio(ratios[0])
}

// Promise 45, with the fractions of the chapter.
func TestCurvesAreRoundedOnce(t *testing.T) {
	for _, list := range scatteredCurves() {
		var xs, ys []int
		for _, p := range list {
			xs, ys = append(xs, p.X), append(ys, p.Y)
		}
		for k := 0; k <= parts; k++ {
			if got, want := impl.CurvePoint(list, k), point(repeatedly(xs, k), repeatedly(ys, k)); got != want {
				t.Errorf("CurvePoint(%v, %d) is %v, not %v", list, k, got, want)
			}
		}
	}
}

// Promises 44 to 47, for a single control point.
func TestASingleControlPoint(t *testing.T) {
	for _, p := range samplePoints() {
		list := []impl.Point{p}
		if !impl.CurveValid(list) {
			t.Errorf("CurveValid(%v) is false", list)
		}
		for k := 0; k <= parts; k++ {
			if got := impl.CurvePoint(list, k); got != p {
				t.Errorf("CurvePoint(%v, %d) is %v", list, k, got)
			}
		}
		for _, n := range divisors {
			if got := impl.CurvePoints(list, n); !slices.Equal(got, repeatedPoint(p, n+1)) {
				t.Errorf("CurvePoints(%v, %d) is %v", list, n, got)
			}
		}
		if low, high := impl.BoxOf(list); low != p || high != p {
			t.Errorf("BoxOf(%v) is %v and %v", list, low, high)
		}
	}
}

// Promise 45. A curve with equal control points stays where it is.
func TestEqualControlPoints(t *testing.T) {
	for _, p := range samplePoints() {
		for n := 1; n <= mostControl; n++ {
			for k := 0; k <= parts; k++ {
				if got := impl.CurvePoint(repeatedPoint(p, n), k); got != p {
					t.Errorf("CurvePoint of %d times %v at %d is %v", n, p, k, got)
				}
			}
		}
	}
}

// Promise 45, for invalid arguments.
func TestCurvePointOfInvalidArguments(t *testing.T) {
	check := func(list []impl.Point, k int) {
		if got := impl.CurvePoint(list, k); got != (impl.Point{}) {
			t.Errorf("CurvePoint(%v, %d) is %v", list[:min(len(list), 8)], k, got)
		}
	}
	for _, list := range scatteredCurves() {
		for _, k := range outOf(0, parts) {
			check(list, k)
		}
	}
	for _, list := range invalidCurves() {
		for _, k := range append(outOf(0, parts), 0, 1, 32, 63, parts) {
			check(list, k)
		}
	}
}

func TestCurvePointsExamples(t *testing.T) {
	bend := pointsOf(0, 0, 64, 0, 64, 64)
	for _, c := range []struct {
		list []impl.Point
		n    int
		want []impl.Point
	}{
		{bend, 1, pointsOf(0, 0, 64, 64)},
		{bend, 2, pointsOf(0, 0, 48, 16, 64, 64)},
		{bend, 4, pointsOf(0, 0, 28, 4, 48, 16, 60, 36, 64, 64)},
		{pointsOf(0, 0, 1, -1), 4, pointsOf(0, 0, 0, 0, 1, 0, 1, -1, 1, -1)},
		{pointsOf(0, 0, 0, 8, 8, 8, 8, 0), 2, pointsOf(0, 0, 4, 6, 8, 0)},
		{pointsOf(7, -8), 1, pointsOf(7, -8, 7, -8)},
		{bend, 0, nil},
		{bend, -1, nil},
		{bend, -2, nil},
		{bend, -64, nil},
		{bend, 3, nil},
		{bend, 63, nil},
		{bend, 65, nil},
		{bend, 128, nil},
		{nil, 1, nil},
		{pointsOf(1, 1, 1, 1, 1, 1, 1, 1, 1, 1), 1, nil},
		{pointsOf(1, 1, 1, greatest+1), 2, nil},
	} {
		if got := impl.CurvePoints(c.list, c.n); !slices.Equal(got, c.want) {
			t.Errorf("CurvePoints(%v, %d) is %v, not %v", c.list, c.n, got, c.want)
		}
	}
}

func checkCurveList(t *testing.T, list []impl.Point, n int) {
	got := impl.CurvePoints(list, n)
	if len(got) != n+1 {
		t.Errorf("CurvePoints(%v, %d) has %d points", list, n, len(got))
		return
	}
	for k, p := range got {
		if p != impl.CurvePoint(list, k*parts/n) || !isOnCurve(p, list, k*parts/n) {
			t.Errorf("point %d of CurvePoints(%v, %d) is %v", k, list, n, p)
		}
	}
}

// Promise 46.
func TestFinerListsContainCoarserOnes(t *testing.T) {
	eachCurve(func(list []impl.Point) {
		for _, n := range divisors {
			checkCurveList(t, list, n)
		}
		for _, n := range divisors[:len(divisors)-1] {
			coarse, fine := impl.CurvePoints(list, n), impl.CurvePoints(list, 2*n)
			if len(coarse) != n+1 || len(fine) != 2*n+1 {
				continue // checkCurveList reports it
			}
			for k, p := range coarse {
				if fine[2*k] != p {
					t.Errorf("point %d of CurvePoints(%v, %d) is %v, not %v", 2*k, list, 2*n, fine[2*k], p)
				}
			}
		}
	})
}

// Promise 46. Only divisors of CurveParts have a list.
func TestOnlyDivisorsHaveLists(t *testing.T) {
	for _, list := range scatteredCurves() {
		for n := -2 * parts; n <= 4*parts; n++ {
			want := 0
			if slices.Contains(divisors, n) {
				want = n + 1
			}
			if got := impl.CurvePoints(list, n); len(got) != want {
				t.Errorf("CurvePoints(%v, %d) has %d points, not %d", list, n, len(got), want)
			}
		}
		for _, n := range outOf(1, parts) {
			if got := impl.CurvePoints(list, n); len(got) != 0 {
				t.Errorf("CurvePoints(%v, %d) is %v", list, n, got)
			}
		}
	}
}

// Promise 46, for invalid curves.
func TestCurvePointsOfInvalidCurves(t *testing.T) {
	for _, list := range invalidCurves() {
		for _, n := range append(outOf(1, parts), 1, 2, 3, 32, parts) {
			if got := impl.CurvePoints(list, n); len(got) != 0 {
				t.Errorf("CurvePoints(%v, %d) is %v", list[:min(len(list), 8)], n, got)
			}
		}
	}
}

// Promise 124.
func TestCurvesWithTwoControlPointsAreLines(t *testing.T) {
	check := func(a impl.Point, b impl.Point, n int) {
		curve, line := impl.CurvePoints([]impl.Point{a, b}, n), impl.LinePoints(a, b, n)
		if len(curve) != n+1 || !slices.EqualFunc(curve, line, near) {
			t.Errorf("the curve from %v to %v in %d parts is %v, not nearly %v", a, b, n, curve, line)
		}
	}
	for _, a := range samplePoints() {
		for _, b := range samplePoints() {
			for _, n := range divisors {
				check(a, b, n)
			}
		}
	}
}

// Promise 124, for invalid points: there is neither a curve nor a line.
func TestNoLinesToInvalidPoints(t *testing.T) {
	for _, bad := range invalidPoints() {
		for _, n := range divisors {
			for _, list := range [][]impl.Point{{bad, point(1, 2)}, {point(1, 2), bad}, {bad, bad}} {
				if len(impl.CurvePoints(list, n)) != 0 || len(impl.LinePoints(list[0], list[1], n)) != 0 {
					t.Errorf("there is a curve or a line of %v in %d parts", list, n)
				}
			}
		}
	}
}

func TestBoxOfExamples(t *testing.T) {
	for _, c := range []struct {
		list      []impl.Point
		low, high impl.Point
	}{
		{pointsOf(3, -1, -2, 5), point(-2, -1), point(3, 5)},
		{pointsOf(-2, 5, 3, -1), point(-2, -1), point(3, 5)},
		{pointsOf(3, 4), point(3, 4), point(3, 4)},
		{pointsOf(-3, -4, -3, -4), point(-3, -4), point(-3, -4)},
		// The origin is in none of these boxes.
		{pointsOf(5, 6, 7, 8, 6, 9), point(5, 6), point(7, 9)},
		{pointsOf(-5, -6, -7, -8, -6, -9), point(-7, -9), point(-5, -6)},
		// One point on every side.
		{pointsOf(0, 5, 5, 10, 10, 5, 5, 0), point(0, 0), point(10, 10)},
		{pointsOf(-greatest, greatest, greatest, -greatest), point(-greatest, -greatest), point(greatest, greatest)},
		{nil, point(0, 0), point(0, 0)},
		{[]impl.Point{}, point(0, 0), point(0, 0)},
		{pointsOf(3, 4, greatest+1, 4), point(0, 0), point(0, 0)},
		{pointsOf(3, -greatest-1, 3, 4), point(0, 0), point(0, 0)},
		{repeatedPoint(point(3, 4), manyRows), point(3, 4), point(3, 4)},
		{repeatedPoint(point(3, 4), manyRows+1), point(0, 0), point(0, 0)},
	} {
		if low, high := impl.BoxOf(c.list); low != c.low || high != c.high {
			t.Errorf("BoxOf(%v) is %v and %v, not %v and %v", c.list, low, high, c.low, c.high)
		}
	}
}

// checkBox expects valid points.
func checkBox(t *testing.T, list []impl.Point) {
	low, high := impl.BoxOf(list)
	var left, right, below, above bool
	for _, p := range list {
		if p.X < low.X || p.X > high.X || p.Y < low.Y || p.Y > high.Y {
			t.Errorf("%v is not in BoxOf(%v), %v and %v", p, list, low, high)
		}
		left, right = left || p.X == low.X, right || p.X == high.X
		below, above = below || p.Y == low.Y, above || p.Y == high.Y
	}
	if !left || !right || !below || !above {
		t.Errorf("a side of BoxOf(%v), %v and %v, has no point", list, low, high)
	}
}

// Promise 47.
func TestBoxesAreTight(t *testing.T) {
	eachCurve(func(list []impl.Point) {
		checkBox(t, list)
	})
	for _, a := range samplePoints() {
		for _, b := range samplePoints() {
			checkBox(t, []impl.Point{a, b})
		}
	}
	for _, list := range scatteredCurves() {
		checkBox(t, impl.CurvePoints(list, parts))
		checkBox(t, impl.LinePoints(list[0], list[len(list)-1], manyRows-1))
	}
}

// Promise 47. Every place of a list of every length counts, for every side.
func TestEveryPointCountsForItsBox(t *testing.T) {
	for _, n := range []int{1, 2, 3, 5, 64, manyRows - 1, manyRows} {
		for k := range n {
			for _, far := range pointsOf(9, 2, -9, 2, 1, 9, 1, -9, greatest, greatest, -greatest, -greatest) {
				list := repeatedPoint(point(1, 2), n)
				list[k] = far
				checkBox(t, list)
			}
		}
	}
}

// Promise 47, for invalid arguments.
func TestBoxOfInvalidArguments(t *testing.T) {
	check := func(list []impl.Point) {
		if low, high := impl.BoxOf(list); low != (impl.Point{}) || high != (impl.Point{}) {
			t.Errorf("BoxOf of %d points is %v and %v", len(list), low, high)
		}
	}
	check(nil)
	check([]impl.Point{})
	check(pointsOf(1, 2, 3, 4)[:0])
	for _, n := range []int{manyRows + 1, manyRows + 2, 2 * manyRows, 10000} {
		check(repeatedPoint(point(1, 2), n))
	}
	for _, n := range []int{1, 2, 3, mostControl + 1, manyRows - 1, manyRows, manyRows + 1} {
		for k := range n {
			for _, bad := range badPoints {
				list := repeatedPoint(point(1, 2), n)
				list[k] = bad
				check(list)
			}
		}
	}
	for _, bad := range invalidPoints() {
		check([]impl.Point{bad})
		check([]impl.Point{bad, point(1, 2)})
		check([]impl.Point{point(1, 2), bad, point(3, 4)})
		check([]impl.Point{bad, bad})
	}
}

// roomyPoints has spare capacity, which no function may write to.
func roomyPoints(list []impl.Point) []impl.Point {
	full := append(slices.Clone(list), pointsOf(11, 22, 33, 44, 55, 66, 77, 88)...)
	return full[:len(list)]
}

// checkCurveMemory overwrites one result, and then the argument. Nothing else
// may be affected.
func checkCurveMemory(t *testing.T, list []impl.Point, n int) {
	given := roomyPoints(list)
	before := slices.Clone(whole(given))
	impl.CurveValid(given)
	impl.CurvePoint(given, n)
	impl.BoxOf(given)
	first, kept := impl.CurvePoints(given, n), impl.CurvePoints(given, n)
	if !slices.Equal(whole(given), before) {
		t.Errorf("the argument %v is changed", list)
	}
	want := slices.Clone(kept)
	fill(whole(first), point(777, 777))
	if !slices.Equal(whole(given), before) {
		t.Errorf("CurvePoints(%v, %d) shares memory with its argument", list, n)
	}
	fill(whole(given), point(888, 888))
	if !slices.Equal(kept, want) {
		t.Errorf("CurvePoints(%v, %d) shares memory with its argument or a second result", list, n)
	}
	checkPointsMemory(t, func() []impl.Point { return impl.CurvePoints(list, n) })
}

// Promises 44 to 47.
func TestCurvesChangeAndShareNothing(t *testing.T) {
	lists := append(scatteredCurves(), repeatedPoint(point(1, 2), mostControl+1), nil, badPoints[:1], badPoints[:3])
	for _, list := range lists {
		for _, n := range append([]int{-1, 0, 3, 65}, divisors...) {
			checkCurveMemory(t, list, n)
		}
	}
	long := roomyPoints(impl.LinePoints(point(-5, 9), point(700, -800), manyRows-1))
	before := slices.Clone(whole(long))
	impl.BoxOf(long)
	impl.CurveValid(long)
	if !slices.Equal(whole(long), before) {
		t.Error("a long list of points is changed")
	}
}
