package tests

import (
	"math/big"
	"testing"

	"loop.example/robotcell/impl"
)

// farthest is the largest absolute value of a coordinate from which a distance
// is measured.
const farthest = 1000

// tooFar are coordinates from which no distance is measured, valid and invalid.
var tooFar = append([]int{-greatest, -farthest - 1, farthest + 1, greatest}, beyond...)

func isMeasured(points ...impl.Point) bool {
	for _, p := range points {
		for _, c := range []int{p.X, p.Y} {
			if c < -farthest || c > farthest {
				return false
			}
		}
	}
	return true
}

// squareByFraction goes along the segment to the point that is nearest to p, in
// fractions, and rounds at the end.
func squareByFraction(p impl.Point, a impl.Point, b impl.Point) int {
	if !isMeasured(p, a, b) {
		return -1
	}
	number := func(n int) *big.Rat { return new(big.Rat).SetInt64(int64(n)) }
	zero, one := number(0), number(1)
	share := number(0)
	if length := (b.X-a.X)*(b.X-a.X) + (b.Y-a.Y)*(b.Y-a.Y); length > 0 {
		share.Quo(number((p.X-a.X)*(b.X-a.X)+(p.Y-a.Y)*(b.Y-a.Y)), number(length))
	}
	if share.Cmp(zero) < 0 {
		share = zero
	}
	if share.Cmp(one) > 0 {
		share = one
	}
	square := number(0)
	for _, c := range [][3]int{{p.X, a.X, b.X}, {p.Y, a.Y, b.Y}} {
		way := new(big.Rat).Mul(share, number(c[2]-c[1]))
		way.Add(way, number(c[1]-c[0]))
		square.Add(square, way.Mul(way, way))
	}
	return int(new(big.Int).Quo(square.Num(), square.Denom()).Int64())
}

// squareToEdges is the least distance from an edge, or 0 inside.
func squareToEdges(list []impl.Point, p impl.Point) int {
	if !isMeasured(p) || !isMeasured(list...) {
		return -1
	}
	if areaWith(list, p) == areaByTriangles(list) {
		return 0
	}
	least := -1
	for k, a := range list {
		if square := squareByFraction(p, a, list[(k+1)%len(list)]); least < 0 || square < least {
			least = square
		}
	}
	return least
}

// checkSquare tries both orders of the ends.
func checkSquare(t *testing.T, p impl.Point, a impl.Point, b impl.Point, want int) {
	if got := impl.SegmentSquare(p, a, b); got != want {
		t.Errorf("SegmentSquare(%v, %v, %v) is %d, not %d", p, a, b, got, want)
	}
	if got := impl.SegmentSquare(p, b, a); got != want {
		t.Errorf("SegmentSquare(%v, %v, %v) is %d, not %d", p, b, a, got, want)
	}
}

func TestSegmentSquareExamples(t *testing.T) {
	f, g := farthest, greatest
	for _, c := range []struct {
		p, a, b impl.Point
		want    int
	}{
		// Beside a horizontal, a vertical and an oblique segment.
		{point(0, 5), point(-3, 0), point(3, 0), 25},
		{point(-3, 4), point(-3, 0), point(3, 0), 16},
		{point(3, -4), point(-3, 0), point(3, 0), 16},
		{point(9, 1), point(2, -6), point(2, 6), 49},
		{point(-1, 6), point(2, -6), point(2, 6), 9},
		{point(5, 0), point(0, 0), point(8, 4), 5},
		{point(3, 4), point(0, 0), point(8, 4), 5},
		{point(7, -1), point(0, 0), point(4, 3), 25},
		{point(-3, 4), point(0, 0), point(4, 3), 25},
		// Rounded down: 1/2, 4/10, 16/5, 49/10, 9/2, 5564881/10201.
		{point(0, 1), point(0, 0), point(1, 1), 0},
		{point(1, 1), point(0, 0), point(3, 1), 0},
		{point(0, 2), point(0, 0), point(2, 1), 3},
		{point(2, 3), point(0, 0), point(3, 1), 4},
		{point(0, 3), point(0, 0), point(4, 4), 4},
		{point(14, -21), point(0, 0), point(99, 20), 545},
		// On it, also without a whole point in the middle.
		{point(0, 0), point(-3, 0), point(3, 0), 0},
		{point(4, 2), point(0, 0), point(8, 4), 0},
		{point(-3, 0), point(-3, 0), point(3, 0), 0},
		{point(3, 0), point(-3, 0), point(3, 0), 0},
		// On its line, beyond either end.
		{point(7, 0), point(-3, 0), point(3, 0), 16},
		{point(-5, 0), point(-3, 0), point(3, 0), 4},
		{point(2, 9), point(2, -6), point(2, 6), 9},
		{point(10, 5), point(0, 0), point(8, 4), 5},
		{point(-2, -1), point(0, 0), point(8, 4), 5},
		// Beyond either end, beside the line.
		{point(7, 3), point(-3, 0), point(3, 0), 25},
		{point(-6, -4), point(-3, 0), point(3, 0), 25},
		{point(4, 1), point(-3, 0), point(3, 0), 2},
		{point(10, 4), point(0, 0), point(8, 4), 4},
		{point(0, -3), point(0, 0), point(8, 4), 9},
		{point(-1, 1), point(0, 0), point(8, 4), 2},
		// Of length 0.
		{point(3, 4), point(0, 0), point(0, 0), 25},
		{point(3, 4), point(3, 4), point(3, 4), 0},
		{point(-f, -f), point(f, f), point(f, f), 8 * f * f},
		// At the bounds.
		{point(f, -f), point(-f, -f), point(f, f), 2 * f * f},
		{point(f, f), point(-f, -f), point(f, -f), 4 * f * f},
		{point(f, f), point(-f, -f), point(-f, f), 4 * f * f},
		{point(f, f), point(-f, -f), point(-f+1, -f), 7996001},
		{point(-f, -f), point(-f, f), point(f, f-1), 3999999},
		{point(f, 0), point(-f, 0), point(-f+1, f), 3999996},
		// Beyond them.
		{point(f+1, 0), point(0, 0), point(3, 1), -1},
		{point(0, 0), point(-f-1, 0), point(3, 1), -1},
		{point(0, 0), point(0, 0), point(3, f+1), -1},
		{point(0, -g), point(0, -g), point(0, -g), -1},
		{point(0, 0), point(g+1, 0), point(0, 0), -1},
		{point(0, -g-1), point(0, 0), point(0, 0), -1},
	} {
		checkSquare(t, c.p, c.a, c.b, c.want)
	}
}

// checkSegmentSquare compares with fractions, and with the distances from both
// ends.
func checkSegmentSquare(t *testing.T, p impl.Point, a impl.Point, b impl.Point) {
	want := squareByFraction(p, a, b)
	checkSquare(t, p, a, b, want)
	if nearer := min(impl.SquaredDistance(p, a), impl.SquaredDistance(p, b)); want > nearer {
		t.Errorf("SegmentSquare(%v, %v, %v) is %d, but an end is at the square distance %d", p, a, b, want, nearer)
	}
}

// Promise 54. Every place of the point around segments of every direction.
func TestDistancesFromShortSegments(t *testing.T) {
	around := gridOf(-3, -2, -1, 0, 1, 2, 3, 4)
	eachPair(gridOf(-1, 0, 1, 2), func(a impl.Point, b impl.Point) {
		for _, p := range around {
			checkSegmentSquare(t, p, a, b)
		}
	})
}

// Promise 54. Segments between points at the bounds, near them, and scattered.
func TestDistancesFromLongSegments(t *testing.T) {
	points := gridOf(-farthest, -farthest+1, -7, 0, 377, farthest)
	eachPair(points, func(a impl.Point, b impl.Point) {
		for _, p := range points {
			checkSegmentSquare(t, p, a, b)
		}
	})
	for _, list := range scatteredLists(1200, 3) {
		if len(list) == 3 {
			checkSegmentSquare(t, list[0], list[1], list[2])
		}
	}
}

// Promise 54.
func TestDistancesAreAtMostThoseFromTheEnds(t *testing.T) {
	eachPair(gridOf(-farthest, -143, -1, 0, 2, 71, farthest), func(a impl.Point, b impl.Point) {
		checkSquare(t, a, a, b, 0)
		checkSquare(t, b, a, b, 0)
		checkSquare(t, a, b, b, impl.SquaredDistance(a, b))
		checkSquare(t, b, a, a, impl.SquaredDistance(a, b))
	})
}

// Promise 54. Along the line of a segment, and beside it, in units of its way.
func TestDistancesAlongTheLine(t *testing.T) {
	for _, way := range pointsOf(1, 0, 0, -1, 1, 1, -1, 1, 3, 2, -7, 5, 99, -98) {
		length := way.X*way.X + way.Y*way.Y
		at := func(k int, aside int) impl.Point {
			return point(13+k*way.X-aside*way.Y, -8+k*way.Y+aside*way.X)
		}
		for k := -4; k <= 4; k++ {
			for aside := -4; aside <= 4; aside++ {
				past := max(0, -2-k, k-1)
				checkSquare(t, at(k, aside), at(-2, 0), at(1, 0), (past*past+aside*aside)*length)
			}
		}
	}
}

// Promise 54. One step from the end of a long segment makes a small difference.
func TestDistancesNextToTheEnds(t *testing.T) {
	for _, ends := range [][2]impl.Point{
		{point(0, 0), point(farthest, 1)}, {point(-1, -farthest), point(0, farthest)}, {point(-farthest, farthest), point(farthest-1, -farthest)},
	} {
		for _, end := range ends {
			for _, step := range gridOf(-2, -1, 0, 1, 2) {
				p := point(end.X+step.X, end.Y+step.Y)
				checkSquare(t, p, ends[0], ends[1], squareByFraction(p, ends[0], ends[1]))
			}
		}
	}
}

// withCoordinate is a copy of three points with one of their six coordinates
// replaced.
func withCoordinate(points [3]impl.Point, k int, c int) [3]impl.Point {
	if k%2 == 0 {
		points[k/2].X = c
	} else {
		points[k/2].Y = c
	}
	return points
}

// Promise 54, for coordinates at their bounds and beyond, at every place.
func TestDistancesAreMeasuredWithinBounds(t *testing.T) {
	for _, points := range [][3]impl.Point{
		{point(0, 0), point(0, 0), point(0, 0)},
		{point(1, -2), point(30, 40), point(-50, 60)},
		{point(farthest, -farthest), point(farthest, -farthest), point(farthest, -farthest)},
	} {
		for k := range 6 {
			for _, c := range []int{-farthest, farthest} {
				changed := withCoordinate(points, k, c)
				checkSegmentSquare(t, changed[0], changed[1], changed[2])
				if impl.SegmentSquare(changed[0], changed[1], changed[2]) < 0 {
					t.Errorf("SegmentSquare of %v is not possible", changed)
				}
			}
			for _, c := range tooFar {
				changed := withCoordinate(points, k, c)
				checkSquare(t, changed[0], changed[1], changed[2], -1)
			}
		}
	}
}

// Promise 54, for invalid points in every place, and in all of them.
func TestDistancesOfInvalidPoints(t *testing.T) {
	for _, bad := range append(invalidPoints(), gridOf(tooFar...)...) {
		for _, p := range append(pointsOf(0, 0, farthest, -farthest, greatest, greatest), bad) {
			checkSquare(t, bad, p, point(0, 0), -1)
			checkSquare(t, p, bad, point(0, 0), -1)
			checkSquare(t, p, bad, bad, -1)
		}
	}
}

// nearPolygons are convex, with all corners where distances are measured.
func nearPolygons() [][]impl.Point {
	f := farthest
	lists := [][]impl.Point{
		pointsOf(-f, -f, f, -f, f, f, -f, f),
		pointsOf(f, -f, f, f, -f, f),
		pointsOf(-f, -f, f, f-1, f, f),
		pointsOf(-f, -f, f-1, f-2, f, f, -f+1, -f+2),
		pointsOf(-1, -f, 1, -f, f, -1, f, 1, 1, f, -1, f, -f, 1, -f, -1),
	}
	for n := 3; n <= mostCorners; n++ {
		lists = append(lists, placed(roundCorners[:n], 99, point(0, 0)), placed(roundCorners[16-n:], 13, point(-3, 7)))
	}
	for _, list := range samplePolygons() {
		if isMeasured(list...) {
			lists = append(lists, list)
		}
	}
	return lists
}

func TestPolygonSquareExamples(t *testing.T) {
	f, g := farthest, greatest
	square, wedge := pointsOf(0, 0, 4, 0, 4, 4, 0, 4), pointsOf(0, 0, 6, 2, 2, 6)
	for _, c := range []struct {
		list []impl.Point
		p    impl.Point
		want int
	}{
		// Inside, on an edge, and at a corner.
		{square, point(1, 2), 0},
		{square, point(4, 1), 0},
		{square, point(2, 0), 0},
		{square, point(0, 4), 0},
		{wedge, point(2, 2), 0},
		{wedge, point(4, 4), 0},
		{wedge, point(6, 2), 0},
		// Beside every edge.
		{square, point(2, -3), 9},
		{square, point(7, 4), 9},
		{square, point(1, 5), 1},
		{square, point(-2, 3), 4},
		// Beyond every corner, and on the line of an edge.
		{square, point(-1, -2), 5},
		{square, point(7, -4), 25},
		{square, point(5, 5), 2},
		{square, point(-3, 8), 25},
		{square, point(9, 4), 25},
		// Oblique edges, with fractions rounded down: 64/40, 36/40, 64/40, 144/32.
		{wedge, point(4, 0), 1},
		{wedge, point(3, 0), 0},
		{wedge, point(0, 4), 1},
		{wedge, point(5, 6), 4},
		{wedge, point(6, 6), 8},
		{wedge, point(0, 8), 8},
		// At the bounds.
		{pointsOf(-f, -f, f, -f, f, f, -f, f), point(f, f), 0},
		{pointsOf(f-1, f-1, f, f-1, f, f), point(-f, -f), 2 * (2*f - 1) * (2*f - 1)},
		{pointsOf(-f, -f, -f+1, -f, -f, -f+1), point(f, f), 7996000},
		// Not convex, or not where distances are measured.
		{square[:2], point(1, 2), -1},
		{nil, point(1, 2), -1},
		{reversedPoints(square), point(1, 2), -1},
		{roundCorners[:9], point(1, 2), -1},
		{pointsOf(0, 0, 4, 0, 1, 1, 0, 4), point(1, 2), -1},
		{pointsOf(0, 0, f+1, 0, 0, 4), point(1, 1), -1},
		{pointsOf(-g, -g, g, -g, g, g, -g, g), point(0, 0), -1},
		{pointsOf(0, 0, g+1, 0, 0, 4), point(1, 1), -1},
		{square, point(f+1, 2), -1},
		{square, point(2, -f-1), -1},
		{square, point(2, g+1), -1},
	} {
		if got := impl.PolygonSquare(c.list, c.p); got != c.want {
			t.Errorf("PolygonSquare(%v, %v) is %d, not %d", c.list, c.p, got, c.want)
		}
	}
}

// checkPolygonSquare tries every first corner, and compares with the distances
// from the edges.
func checkPolygonSquare(t *testing.T, list []impl.Point, p impl.Point) {
	want := squareToEdges(list, p)
	for k := range list {
		if got := impl.PolygonSquare(rotatedList(list, k), p); got != want {
			t.Errorf("PolygonSquare(%v, %v) is %d, not %d", rotatedList(list, k), p, got, want)
		}
	}
	got, edges := impl.PolygonSquare(list, p), 0
	for k, a := range list {
		square := impl.SegmentSquare(p, a, list[(k+1)%len(list)])
		if got > square {
			t.Errorf("%v is nearer to an edge of %v than PolygonSquare", p, list)
		}
		if got == square {
			edges++
		}
	}
	if edges == 0 && !impl.InsideConvex(list, p) {
		t.Errorf("PolygonSquare(%v, %v) is %d, which is that of no edge", list, p, got)
	}
}

// Promise 55. All points around, on and in small polygons.
func TestDistancesFromSmallPolygons(t *testing.T) {
	around := gridOf(-3, -2, -1, 0, 1, 2, 3, 4, 5, 6)
	for _, small := range smallPolygons() {
		for _, p := range around {
			checkPolygonSquare(t, small, p)
			checkPolygonSquare(t, placed(small, 2, point(-1, 0)), p)
		}
	}
	for n := 3; n <= mostCorners; n++ {
		for _, p := range gridOf(-9, -4, -3, -2, -1, 0, 1, 2, 3, 4, 5, 6, 7, 8, 9, 14) {
			checkPolygonSquare(t, roundCorners[:n], p)
			checkPolygonSquare(t, roundCorners[16-n:], p)
		}
	}
}

// Promise 55. Points far away, and at the bounds.
func TestDistancesFromAllPolygons(t *testing.T) {
	points := gridOf(-farthest, -farthest+1, -11, 0, 3, 500, farthest)
	for _, list := range nearPolygons() {
		for _, p := range points {
			checkPolygonSquare(t, list, p)
		}
	}
}

// Promise 55.
func TestPointsInsideHaveTheDistanceZero(t *testing.T) {
	for _, list := range nearPolygons() {
		for k, a := range list {
			b := list[(k+1)%len(list)]
			points := []impl.Point{a}
			if (a.X+b.X)%2 == 0 && (a.Y+b.Y)%2 == 0 {
				points = append(points, impl.Midpoint(a, b))
			}
			for _, c := range list {
				if p := impl.Midpoint(a, c); impl.InsideConvex(list, p) {
					points = append(points, p)
				}
			}
			for _, p := range points {
				for first := range list {
					if got := impl.PolygonSquare(rotatedList(list, first), p); got != 0 {
						t.Errorf("PolygonSquare(%v, %v) is %d, but the point is inside", rotatedList(list, first), p, got)
					}
				}
			}
		}
	}
}

// Promise 55. Beyond a corner, in the middle of the directions of both edges, it
// is the corner that is nearest.
func TestDistancesFromCorners(t *testing.T) {
	square := pointsOf(-10, -20, 30, -20, 30, 40, -10, 40)
	for k, corner := range square {
		way := pointsOf(-1, -1, 1, -1, 1, 1, -1, 1)[k]
		for _, step := range gridOf(0, 1, 2, 3, 55) {
			p := point(corner.X+way.X*step.X, corner.Y+way.Y*step.Y)
			checkPolygonSquare(t, square, p)
			if got := impl.PolygonSquare(square, p); got != step.X*step.X+step.Y*step.Y {
				t.Errorf("PolygonSquare(%v, %v) is %d", square, p, got)
			}
		}
	}
}

// Promise 55, for lists that are not convex.
func TestNoDistancesFromListsThatAreNotConvex(t *testing.T) {
	lists := append(notConvex(), placed(roundCorners[:mostCorners+1], 99, point(0, 0)))
	for n := 3; n <= mostCorners; n++ {
		lists = append(lists, reversedPoints(roundCorners[:n]))
	}
	for _, list := range lists {
		points := append(gridOf(-1, 0, 1, 4, farthest), list[:min(len(list), 9)]...)
		for _, p := range append(points, badPoints...) {
			if got := impl.PolygonSquare(list, p); got != -1 {
				t.Errorf("PolygonSquare(%v, %v) is %d", list[:min(len(list), 9)], p, got)
			}
		}
	}
}

// farPolygons are convex, with a corner beyond the bounds of distances.
func farPolygons() [][]impl.Point {
	f := farthest
	lists := largePolygons()
	for _, list := range [][]impl.Point{
		pointsOf(0, -f, f, 0, 0, f, -f, 0),
		pointsOf(-f, -f, f, -f, f, f, -f, f),
		pointsOf(-1, -f, 1, -f, f, -1, f, 1, 1, f, -1, f, -f, 1, -f, -1),
	} {
		for k, p := range list {
			for _, far := range []impl.Point{point(p.X+p.X/f, p.Y), point(p.X, p.Y+p.Y/f)} {
				if far != p {
					lists = append(lists, spoiled(list, k, far))
				}
			}
		}
	}
	return lists
}

// Promise 55. One corner beyond the bounds is enough, also for points inside.
func TestNoDistancesFromPolygonsThatAreTooFar(t *testing.T) {
	for _, list := range farPolygons() {
		if !impl.ConvexValid(list) || isMeasured(list...) {
			t.Errorf("%v is not convex, or not too far", list)
		}
		for _, p := range append(gridOf(-farthest, -1, 0, 1, farthest), list...) {
			for k := range list {
				if got := impl.PolygonSquare(rotatedList(list, k), p); got != -1 {
					t.Errorf("PolygonSquare(%v, %v) is %d", rotatedList(list, k), p, got)
				}
			}
		}
	}
}

// Promise 55, for points beyond the bounds, also inside of the polygon.
func TestNoDistancesOfInvalidPoints(t *testing.T) {
	g := greatest
	lists := [][]impl.Point{
		pointsOf(0, 0, 4, 0, 0, 4), roundCorners[:mostCorners], nearPolygons()[0], pointsOf(-g, -g, g, -g, g, g, -g, g), nil,
	}
	points := append(invalidPoints(), gridOf(tooFar...)...)
	for _, c := range tooFar {
		points = append(points, point(c, 1), point(1, c), point(c, farthest), point(-farthest, c))
	}
	for _, p := range points {
		for _, list := range lists {
			if got := impl.PolygonSquare(list, p); got != -1 {
				t.Errorf("PolygonSquare(%v, %v) is %d", list, p, got)
			}
		}
	}
}
