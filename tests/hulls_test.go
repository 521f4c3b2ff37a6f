package tests

import (
	"slices"
	"testing"

	"loop.example/robotcell/impl"
)

// mixedOrder are the points of a list in an order that follows no simple rule.
// It expects fewer than 17 points.
func mixedOrder(list []impl.Point) []impl.Point {
	var other []impl.Point
	for k := range 17 {
		if place := k * 7 % 17; place < len(list) {
			other = append(other, list[place])
		}
	}
	return other
}

// fullCloud is a list with its points repeated until there are MaxCloud.
func fullCloud(list []impl.Point) []impl.Point {
	return slices.Repeat(list, mostPoints)[:mostPoints]
}

func TestHullOfExamples(t *testing.T) {
	g := greatest
	for _, c := range []struct {
		list, want []impl.Point
	}{
		{pointsOf(0, 0, 4, 0, 2, 1, 4, 4, 0, 4), pointsOf(0, 0, 4, 0, 4, 4, 0, 4)},
		// Points on the border that are no corners.
		{pointsOf(0, 0, 4, 0, 2, 1, 4, 4, 0, 4, 2, 0), pointsOf(0, 0, 4, 0, 4, 4, 0, 4)},
		{pointsOf(2, 4, 4, 2, 0, 2, 2, 0, 4, 4, 0, 0, 4, 0, 0, 4, 3, 4, 0, 1), pointsOf(0, 0, 4, 0, 4, 4, 0, 4)},
		{pointsOf(0, 0, 1, 1, 2, 2, 3, 3, 0, 3), pointsOf(0, 0, 3, 3, 0, 3)},
		{pointsOf(0, 0, 3, 3, 3, 0, 1, 1, 2, 2), pointsOf(0, 0, 3, 0, 3, 3)},
		// Triangles, in either order.
		{pointsOf(0, 0, 1, 0, 0, 1), pointsOf(0, 0, 1, 0, 0, 1)},
		{pointsOf(0, 1, 1, 0, 0, 0), pointsOf(0, 0, 1, 0, 0, 1)},
		{pointsOf(5, 5, -3, 2, 1, -9), pointsOf(-3, 2, 1, -9, 5, 5)},
		// Several points with the least X: the one with the least Y is the first.
		{pointsOf(-2, 3, 0, 0, -2, -3, -2, 1), pointsOf(-2, -3, 0, 0, -2, 3)},
		{pointsOf(-2, 3, -2, -3, -5, 0, 1, 0), pointsOf(-5, 0, -2, -3, 1, 0, -2, 3)},
		// Several points with the greatest X.
		{pointsOf(0, 0, 4, -1, 4, 0, 4, 1), pointsOf(0, 0, 4, -1, 4, 1)},
		// Equal points.
		{pointsOf(1, 1, 1, 1, 0, 0, 0, 0, 1, 0, 1, 0), pointsOf(0, 0, 1, 0, 1, 1)},
		// One unit on either side of a line.
		{pointsOf(-g, -g, 0, 1, g, g), pointsOf(-g, -g, g, g, 0, 1)},
		{pointsOf(-g, -g, 0, -1, g, g), pointsOf(-g, -g, 0, -1, g, g)},
		{pointsOf(g, g, -g, g, g, -g, -g, -g, 0, 0), pointsOf(-g, -g, g, -g, g, g, -g, g)},
		// More corners than a polygon may have.
		{roundCorners, rotatedList(roundCorners, 13)},
		// Points on one line, and fewer than three of them.
		{nil, nil},
		{pointsOf(3, 4), nil},
		{pointsOf(0, 0, 4, 0), nil},
		{pointsOf(0, 0, 4, 0, 2, 0), nil},
		{pointsOf(3, 4, 3, 4, 3, 4), nil},
		{pointsOf(3, 4, 3, 4, 5, 6, 5, 6), nil},
		{pointsOf(0, 0, 3, 2, 6, 4, -3, -2, 9, 6), nil},
		{pointsOf(-g, -g, 0, 0, g, g), nil},
		// An invalid point.
		{pointsOf(0, 0, 4, 0, 0, g+1), nil},
		{pointsOf(-g-1, 0, 4, 0, 0, 4), nil},
	} {
		if got := impl.HullOf(c.list); !slices.Equal(got, c.want) {
			t.Errorf("HullOf(%v) is %v, not %v", c.list, got, c.want)
		}
	}
}

// checkHull expects at most MaxCloud valid points.
func checkHull(t *testing.T, list []impl.Point) {
	got := impl.HullOf(list)
	if want := hullByCorners(list); !slices.Equal(got, want) {
		t.Errorf("HullOf(%v) is %v, not %v", list, got, want)
		return
	}
	if again := impl.HullOf(got); !slices.Equal(again, got) {
		t.Errorf("the hull of the hull of %v is %v, not %v", list, again, got)
	}
	if len(got) == 0 {
		return
	}
	if got[0] != slices.MinFunc(list, byCoordinates) {
		t.Errorf("HullOf(%v) begins with %v", list, got[0])
	}
	if valid := impl.ConvexValid(got); valid != (len(got) <= mostCorners) {
		t.Errorf("ConvexValid of the hull %v is %v", got, valid)
	}
	for _, corner := range got {
		if !slices.Contains(list, corner) {
			t.Errorf("the corner %v of HullOf(%v) is not among the points", corner, list)
		}
	}
	for _, p := range list {
		if impl.InsideConvex(got, p) != (len(got) <= mostCorners) || areaWith(got, p) != areaByTriangles(got) {
			t.Errorf("%v is not inside HullOf(%v), %v", p, list, got)
		}
	}
}

// Promise 4, for all parts of a grid of MaxCloud points.
func TestHullsOfAllPartsOfAGrid(t *testing.T) {
	eachPart(mixedOrder(gridOf(0, 1, 2, 3)), func(part []impl.Point) {
		got, want := impl.HullOf(part), hullByCorners(part)
		if !slices.Equal(got, want) {
			t.Errorf("HullOf(%v) is %v, not %v", part, got, want)
		}
	})
	eachPart(mixedOrder(gridOf(-greatest, 0, greatest)), func(part []impl.Point) {
		checkHull(t, part)
	})
}

// Promise 4, with equal points.
func TestHullsWithEqualPoints(t *testing.T) {
	eachListOf(gridOf(0, 1), 6, func(list []impl.Point) {
		checkHull(t, list)
	})
	eachListOf(pointsOf(0, 0, 0, 1, 0, 2, 1, 0, 2, 0, 1, 1), 4, func(list []impl.Point) {
		checkHull(t, list)
		checkHull(t, fullCloud(list))
	})
}

// Promise 4, for all numbers of points and for every order of a few kinds.
func TestHullsContainTheirPoints(t *testing.T) {
	for _, list := range scatteredLists(640, mostPoints) {
		for _, order := range [][]impl.Point{list, reversedPoints(list), mixedOrder(list), fullCloud(list), rotatedList(list, len(list)/2)} {
			checkHull(t, order)
		}
	}
	for _, list := range samplePolygons() {
		checkHull(t, mixedOrder(list))
		checkHull(t, reversedPoints(list))
	}
	for _, list := range notConvex() {
		if len(list) <= mostPoints && !slices.ContainsFunc(list, func(p impl.Point) bool { return !impl.PointValid(p) }) {
			checkHull(t, list)
		}
	}
}

// Promise 4. The middles of edges and diagonals are no corners.
func TestHullsOmitPointsThatAreNoCorners(t *testing.T) {
	for _, small := range smallPolygons() {
		list := placed(small, 2, point(-1, -3))
		with := slices.Clone(list)
		for k, a := range list {
			for _, b := range list[:k] {
				with = append(with, impl.Midpoint(a, b))
			}
		}
		with = with[:min(len(with), mostPoints)]
		for _, order := range [][]impl.Point{with, reversedPoints(with), mixedOrder(with)} {
			if got := impl.HullOf(order); !slices.Equal(got, list) {
				t.Errorf("HullOf(%v) is %v, not %v", order, got, list)
			}
		}
	}
}

// Promise 4. A hull may have more corners than a polygon, up to MaxCloud.
func TestHullsWithManyCorners(t *testing.T) {
	var bow []impl.Point
	for k := range mostPoints {
		bow = append(bow, point(k-5, k*k-7))
	}
	for _, corners := range [][]impl.Point{bow, rotatedList(roundCorners, 13)} {
		for n := 3; n <= mostPoints; n++ {
			for _, order := range [][]impl.Point{corners[:n], reversedPoints(corners[:n]), mixedOrder(corners[:n])} {
				if got := impl.HullOf(order); len(got) != n {
					t.Errorf("HullOf(%v) has %d corners", order, len(got))
				}
				checkHull(t, order)
			}
		}
	}
}

// Promise 4. Points on one line have no hull, in whatever order they are.
func TestNoHullsOfPointsOnOneLine(t *testing.T) {
	for _, way := range pointsOf(0, 0, 1, 0, 0, 1, 1, 1, -1, 1, 3, 2, -7, 5, 2, -13) {
		for _, from := range pointsOf(0, 0, 13, -8, -9000, 9000) {
			for n := range mostPoints + 1 {
				var list []impl.Point
				for k := range n {
					list = append(list, point(from.X+k*5%13*way.X, from.Y+k*5%13*way.Y))
				}
				for _, order := range [][]impl.Point{list, reversedPoints(list), mixedOrder(list)} {
					if got := impl.HullOf(order); len(got) != 0 {
						t.Errorf("HullOf(%v) is %v", order, got)
					}
				}
				beside := point(from.X+way.X-way.Y, from.Y+way.Y+way.X)
				for place := 0; place <= n && n < mostPoints; place++ {
					checkHull(t, withCorner(list, place, beside))
				}
			}
		}
	}
}

// Promise 4, for too many points, also if some or all are equal.
func TestNoHullsOfTooManyPoints(t *testing.T) {
	square := pointsOf(0, 0, 4, 0, 4, 4, 0, 4)
	for _, n := range []int{mostPoints + 1, mostPoints + 2, 2 * mostPoints, 10000} {
		for _, list := range [][]impl.Point{slices.Repeat(square, n)[:n], slices.Repeat(roundCorners, n)[:n], make([]impl.Point, n)} {
			if got := impl.HullOf(list); len(got) != 0 {
				t.Errorf("HullOf of %d points is %v", n, got)
			}
		}
	}
	full := append(fullCloud(square), badPoints...)
	if got := impl.HullOf(full[:mostPoints]); !slices.Equal(got, square) {
		t.Errorf("HullOf(%v) is %v", full[:mostPoints], got)
	}
}

// Promise 4, for invalid points.
func TestNoHullsOfInvalidPoints(t *testing.T) {
	for n := 1; n <= mostPoints+1; n++ {
		for k := range n {
			for _, bad := range badPoints {
				list := slices.Repeat(roundCorners, 2)[:n]
				if got := impl.HullOf(spoiled(list, k, bad)); len(got) != 0 {
					t.Errorf("HullOf(%v) is %v", spoiled(list, k, bad), got)
				}
			}
		}
	}
	for _, bad := range invalidPoints() {
		for _, list := range [][]impl.Point{{bad}, {bad, bad, bad}, {bad, point(0, 0), point(1, 0), point(0, 1)}, {point(0, 0), point(1, 0), point(0, 1), bad}} {
			if got := impl.HullOf(list); len(got) != 0 {
				t.Errorf("HullOf(%v) is %v", list, got)
			}
		}
	}
}

// hullArea is that of DoubleArea, which has none for too many corners.
func hullArea(list []impl.Point) int {
	hull := impl.HullOf(list)
	if len(hull) > mostCorners {
		return areaByTriangles(hull)
	}
	return impl.DoubleArea(hull)
}

// checkLarger compares with the hulls of all points but one, and of the first
// and last ones.
func checkLarger(t *testing.T, list []impl.Point) {
	most := hullArea(list)
	for k := range list {
		for _, part := range [][]impl.Point{list[:k], list[k:], slices.Delete(slices.Clone(list), k, k+1)} {
			if area := hullArea(part); area > most {
				t.Errorf("the hull of %v has the area %d, that of the part %v has %d", list, most, part, area)
			}
		}
	}
}

// Promise 121.
func TestHullsOfMorePointsAreLarger(t *testing.T) {
	for _, list := range scatteredLists(640, mostPoints) {
		checkLarger(t, list)
	}
	for _, list := range append(samplePolygons(), roundCorners, reversedPoints(roundCorners), mixedOrder(roundCorners)) {
		checkLarger(t, list)
	}
	eachPart(mixedOrder(gridOf(0, 1, 2)), func(part []impl.Point) {
		if len(part) > 5 {
			checkLarger(t, part)
		}
	})
}

// Promise 121. A point outside makes a hull larger, and a point inside does not.
func TestHullsGrowByPointsOutside(t *testing.T) {
	for _, list := range append(smallPolygons(), roundCorners[:mostCorners]) {
		before := impl.DoubleArea(list)
		for _, p := range gridOf(-5, -1, 0, 1, 2, 3, 6) {
			after := hullArea(append(slices.Clone(list), p))
			if (after > before) == impl.InsideConvex(list, p) || after < before {
				t.Errorf("the hull of %v has the area %d, with the point %v %d", list, before, p, after)
			}
		}
	}
}

// Promise 121, for invalid points and too many of them: there is no area.
func TestNoAreaOfNoHull(t *testing.T) {
	for _, bad := range badPoints {
		for k := range roundCorners {
			if got := hullArea(spoiled(roundCorners, k, bad)); got != 0 {
				t.Errorf("the hull with %v has the area %d", bad, got)
			}
		}
	}
	if got := hullArea(append(roundCorners[:mostPoints:mostPoints], point(0, 0))); got != 0 {
		t.Errorf("the hull of %d points has the area %d", mostPoints+1, got)
	}
}

// checkPolygonMemory overwrites one hull, and then the argument. Nothing else
// may be affected.
func checkPolygonMemory(t *testing.T, list []impl.Point) {
	given := roomyPoints(list)
	before := slices.Clone(whole(given))
	impl.ConvexValid(given)
	impl.InsideConvex(given, point(1, 1))
	impl.SegmentHits(given, point(1, 1), point(-3, 5))
	impl.ConvexMeet(given, given)
	impl.ConvexMeet(given, pointsOf(50, 50, 60, 50, 50, 60))
	impl.DoubleArea(given)
	first, kept := impl.HullOf(given), impl.HullOf(given)
	if !slices.Equal(whole(given), before) {
		t.Errorf("the argument %v is changed", list)
	}
	want := slices.Clone(kept)
	fill(whole(first), point(777, 777))
	if !slices.Equal(whole(given), before) {
		t.Errorf("HullOf(%v) shares memory with its argument", list)
	}
	fill(whole(given), point(888, 888))
	if !slices.Equal(kept, want) {
		t.Errorf("HullOf(%v) shares memory with its argument or a second result", list)
	}
	checkPointsMemory(t, func() []impl.Point { return impl.HullOf(list) })
}

// Promises 4 and 48 to 53.
func TestPolygonsChangeAndShareNothing(t *testing.T) {
	lists := append(samplePolygons(), scatteredLists(640, mostPoints)...)
	lists = append(lists, notConvex()...)
	for _, list := range lists {
		checkPolygonMemory(t, list)
	}
	for n := range len(roundCorners) + 1 {
		checkPolygonMemory(t, roundCorners[:n:n])
		checkPolygonMemory(t, rotatedList(roundCorners, 13)[:n])
		checkPolygonMemory(t, mixedOrder(roundCorners)[:n])
		checkPolygonMemory(t, slices.Repeat(pointsOf(0, 0, 4, 0, 0, 4), 6)[:n])
	}
}
