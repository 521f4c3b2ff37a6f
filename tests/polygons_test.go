package tests

import (
	"cmp"
	"slices"
	"testing"

	"loop.example/robotcell/impl"
)

const (
	mostCorners = impl.MaxCorners
	mostPoints  = impl.MaxCloud
)

// roundCorners are the corners of a convex polygon, so that every three or more
// of them, in this order, are those of one. The first is neither the one with
// the least X nor the only one with the least Y.
var roundCorners = pointsOf(
	0, 0, 1, 0, 3, 1, 4, 2, 5, 4, 5, 5, 4, 7, 3, 8,
	1, 9, 0, 9, -2, 8, -3, 7, -4, 5, -4, 4, -3, 2, -2, 1,
)

// turn is twice the area of a triangle, positive if its corners are in
// counterclockwise order.
func turn(a impl.Point, b impl.Point, c impl.Point) int {
	return (b.X-a.X)*(c.Y-a.Y) - (b.Y-a.Y)*(c.X-a.X)
}

func onSegment(p impl.Point, a impl.Point, b impl.Point) bool {
	return turn(a, b, p) == 0 && (p.X-a.X)*(p.X-b.X)+(p.Y-a.Y)*(p.Y-b.Y) <= 0
}

func areaByTriangles(list []impl.Point) int {
	area := 0
	for k := 2; k < len(list); k++ {
		area += turn(list[0], list[k-1], list[k])
	}
	return area
}

// areaWith is the sum of the doubled areas of the triangles of all edges and a
// point. It is the area of a convex polygon if the point is inside, and else
// more.
func areaWith(list []impl.Point, p impl.Point) int {
	area := 0
	for k := range list {
		area += absolute(turn(list[k], list[(k+1)%len(list)], p))
	}
	return area
}

// isCorner reports whether point k of different points is in no segment and in
// no triangle of the others.
func isCorner(list []impl.Point, k int) bool {
	p, others := list[k], slices.Delete(slices.Clone(list), k, k+1)
	for i, a := range others {
		for j, b := range others[:i] {
			if onSegment(p, a, b) {
				return false
			}
			for _, c := range others[:j] {
				three := []impl.Point{a, b, c}
				if area := absolute(turn(a, b, c)); area > 0 && areaWith(three, p) == area {
					return false
				}
			}
		}
	}
	return true
}

func byCoordinates(a impl.Point, b impl.Point) int {
	return cmp.Or(a.X-b.X, a.Y-b.Y)
}

// hullByCorners tries for every point whether it is a corner, and sorts the
// corners around the first one.
func hullByCorners(list []impl.Point) []impl.Point {
	points := slices.Compact(slices.SortedFunc(slices.Values(list), byCoordinates))
	var corners []impl.Point
	for k, p := range points {
		if isCorner(points, k) {
			corners = append(corners, p)
		}
	}
	if len(corners) < 3 {
		return nil
	}
	slices.SortFunc(corners[1:], func(a impl.Point, b impl.Point) int { return turn(corners[0], b, a) })
	return corners
}

// rotatedList begins with point k.
func rotatedList(list []impl.Point, k int) []impl.Point {
	return slices.Concat(list[k:], list[:k])
}

// isConvexList reports whether a list of valid points is the hull of its points,
// from any corner on.
func isConvexList(list []impl.Point) bool {
	if len(list) < 3 || len(list) > mostCorners {
		return false
	}
	first := slices.Index(list, slices.MinFunc(list, byCoordinates))
	return slices.Equal(rotatedList(list, first), hullByCorners(list))
}

// placed is a list with all points scaled and then moved.
func placed(list []impl.Point, factor int, by impl.Point) []impl.Point {
	var other []impl.Point
	for _, p := range list {
		other = append(other, point(p.X*factor+by.X, p.Y*factor+by.Y))
	}
	return other
}

// eachPart calls a function with all parts of a list, in order.
func eachPart[T any](list []T, call func(part []T)) {
	for set := range 1 << len(list) {
		var part []T
		for k, p := range list {
			if set>>k&1 == 1 {
				part = append(part, p)
			}
		}
		call(part)
	}
}

// smallPolygons are all convex polygons on nine points.
func smallPolygons() [][]impl.Point {
	var lists [][]impl.Point
	eachPart(gridOf(0, 1, 2), func(part []impl.Point) {
		if corners := hullByCorners(part); len(corners) > 2 && len(corners) == len(part) {
			lists = append(lists, corners)
		}
	})
	return lists
}

// largePolygons reach the bounds of the coordinates, are thin, or have other
// large coordinates. They have 3 to MaxCorners corners.
func largePolygons() [][]impl.Point {
	g := greatest
	lists := [][]impl.Point{
		pointsOf(-g, -g, g, -g, g, g, -g, g),
		pointsOf(g, -g, g, g, -g, g),
		pointsOf(-g, -g, g, g-1, g, g),
		pointsOf(-g, -g, g-1, g-1, -g, -g+1),
		pointsOf(g, g, -g, g, -g, g-1),
		pointsOf(-g, -g, g-1, g-2, g, g, -g+1, -g+2),
		pointsOf(-g+1, -g, g-1, -g, g, -g+1, g, g-1, g-1, g, -g+1, g, -g, g-1, -g, -g+1),
		pointsOf(g-3, g-3, g-2, g-3, g, g-2, g, g-1, g-1, g, g-2, g),
	}
	for n := 3; n <= mostCorners; n++ {
		lists = append(lists, placed(roundCorners[:n], 1111, point(0, 0)), placed(roundCorners[16-n:], 1000, point(-3, 7)))
	}
	return lists
}

// samplePolygons are convex.
func samplePolygons() [][]impl.Point {
	lists := append(smallPolygons(), largePolygons()...)
	for n := 3; n <= mostCorners; n++ {
		for k := 0; k+n <= len(roundCorners); k++ {
			lists = append(lists, roundCorners[k:k+n])
		}
	}
	for _, list := range scatteredLists(640, mostPoints) {
		if corners := hullByCorners(list); len(corners) > 2 && len(corners) <= mostCorners {
			lists = append(lists, corners)
		}
	}
	return lists
}

// windings turn left at every corner, but go around twice or three times.
func windings() [][]impl.Point {
	var lists [][]impl.Point
	for _, star := range [][2]int{{5, 2}, {7, 2}, {7, 3}, {8, 3}} {
		var list []impl.Point
		for k := range star[0] {
			list = append(list, roundCorners[k*star[1]%star[0]*2])
		}
		lists = append(lists, list)
	}
	for n := 3; n <= mostCorners/2; n++ {
		lists = append(lists, slices.Repeat(roundCorners[:n], 2))
	}
	return lists
}

// withCorner is a list with one more corner before corner k.
func withCorner(list []impl.Point, k int, p impl.Point) []impl.Point {
	return slices.Insert(slices.Clone(list), k, p)
}

// spoiled is a list with a corner replaced.
func spoiled(list []impl.Point, k int, p impl.Point) []impl.Point {
	other := slices.Clone(list)
	other[k] = p
	return other
}

// notConvex are no convex polygons, each for another reason.
func notConvex() [][]impl.Point {
	lists := [][]impl.Point{
		nil, {}, make([]impl.Point, 0, 8), roundCorners[:0], roundCorners[:1], roundCorners[:2],
		roundCorners[:mostCorners+1], roundCorners, make([]impl.Point, 10000),
		// Clockwise.
		pointsOf(0, 0, 0, 4, 4, 0), pointsOf(0, 0, 0, 4, 4, 4, 4, 0), reversedPoints(roundCorners[:mostCorners]),
		// On one line, in part or as a whole.
		pointsOf(0, 0, 2, 0, 4, 0), pointsOf(0, 0, 4, 0, 2, 0), pointsOf(0, 0, 2, 0, 4, 0, 4, 4), pointsOf(0, 0, 1, 1, 2, 2, 3, 3),
		// With a dent, and with edges that cross.
		pointsOf(0, 0, 4, 0, 1, 1, 0, 4), pointsOf(0, 0, 4, 4, 4, 0, 0, 4), pointsOf(0, 0, 4, 0, 0, 4, 4, 4),
		// With equal corners.
		make([]impl.Point, 3), make([]impl.Point, mostCorners), pointsOf(0, 0, 4, 0, 4, 0), pointsOf(0, 0, 4, 0, 4, 4, 0, 0), pointsOf(0, 0, 4, 0, 0, 4, 4, 0),
	}
	lists = append(lists, windings()...)
	for n := 3; n <= mostCorners; n++ {
		for k := range n {
			for _, bad := range badPoints {
				lists = append(lists, spoiled(roundCorners[:n], k, bad))
			}
		}
	}
	return lists
}

func TestPolygonConstants(t *testing.T) {
	if impl.MaxCorners != 8 || impl.MaxCloud != 16 {
		t.Fatalf("MaxCorners and MaxCloud are %d and %d", impl.MaxCorners, impl.MaxCloud)
	}
}

func TestConvexValidExamples(t *testing.T) {
	for _, c := range []struct {
		list []impl.Point
		want bool
	}{
		{nil, false},
		{pointsOf(0, 0), false},
		{pointsOf(0, 0, 4, 0), false},
		{pointsOf(0, 0, 4, 0, 0, 4), true},
		{pointsOf(0, 0, 0, 4, 4, 0), false},
		{pointsOf(0, 0, 4, 0, 4, 4, 0, 4), true},
		{pointsOf(0, 4, 4, 4, 4, 0, 0, 0), false},
		{pointsOf(1, 0, 2, 0, 3, 1, 3, 2, 2, 3, 1, 3, 0, 2, 0, 1), true},
		{pointsOf(2, 0, 4, 0, 6, 2, 6, 4, 4, 6, 2, 6, 0, 4, 0, 2, 1, 0), false},
		// One unit from a straight line, on it, and on the other side.
		{pointsOf(0, 0, 50, -1, 100, 0, 0, 100), true},
		{pointsOf(0, 0, 50, 0, 100, 0, 0, 100), false},
		{pointsOf(0, 0, 50, 1, 100, 0, 0, 100), false},
		// A dent, crossing edges, two rounds, equal corners.
		{pointsOf(0, 0, 4, 0, 1, 1, 0, 4), false},
		{pointsOf(0, 0, 4, 0, 0, 4, 4, 4), false},
		{pointsOf(0, 0, 4, 0, 0, 4, 0, 0, 4, 0, 0, 4), false},
		{pointsOf(0, 10, -6, -8, 10, 3, -10, 3, 6, -8), false},
		{pointsOf(0, 0, 4, 0, 4, 0, 0, 4), false},
		{pointsOf(3, 3, 3, 3, 3, 3), false},
		{pointsOf(-greatest, -greatest, greatest, -greatest, greatest, greatest, -greatest, greatest), true},
		{pointsOf(-greatest, -greatest, greatest, -greatest, greatest, greatest+1, -greatest, greatest), false},
		{pointsOf(-greatest-1, 0, 0, 0, 0, 4), false},
	} {
		if got := impl.ConvexValid(c.list); got != c.want {
			t.Errorf("ConvexValid(%v) is %v", c.list, got)
		}
	}
}

func TestPolygonsOfEveryNumberOfCorners(t *testing.T) {
	for n := range len(roundCorners) + 1 {
		if got := impl.ConvexValid(roundCorners[:n]); got != (3 <= n && n <= mostCorners) {
			t.Errorf("ConvexValid of %d corners is %v", n, got)
		}
	}
	full := append(slices.Clone(roundCorners[:mostCorners]), badPoints...)
	if !impl.ConvexValid(full[:mostCorners]) || !impl.ConvexValid(full[:3]) {
		t.Error("what lies behind the end of a list counts as a corner")
	}
}

// Promises 48 and 129, for all lists of up to five of nine points.
func TestConvexValidOfAllShortLists(t *testing.T) {
	count := 0
	eachListOf(gridOf(0, 1, 2), 5, func(list []impl.Point) {
		want := isConvexList(list)
		if got := impl.ConvexValid(list); got != want {
			t.Errorf("ConvexValid(%v) is %v", list, got)
		}
		if want {
			count++
		}
	})
	if count == 0 {
		t.Error("no list is convex")
	}
}

// Promise 48.
func TestTheFirstCornerDoesNotMatter(t *testing.T) {
	for _, list := range samplePolygons() {
		for k := range list {
			if other := rotatedList(list, k); !impl.ConvexValid(other) {
				t.Errorf("ConvexValid(%v) is false", other)
			}
			if other := rotatedList(reversedPoints(list), k); impl.ConvexValid(other) {
				t.Errorf("ConvexValid(%v) is true", other)
			}
		}
	}
}

// Promise 48, for lists that are not convex.
func TestListsThatAreNotConvex(t *testing.T) {
	for _, list := range notConvex() {
		for k := range min(len(list), mostCorners+1) {
			if other := rotatedList(list, k); impl.ConvexValid(other) {
				t.Errorf("ConvexValid(%v) is true", other)
			}
		}
		if impl.ConvexValid(list) {
			t.Errorf("ConvexValid(%v) is true", list)
		}
	}
}

// Promise 48. A corner more on the line of an edge, at every place of it.
func TestThreeCornersOnOneLine(t *testing.T) {
	for _, list := range samplePolygons() {
		for k, a := range list {
			b := list[(k+1)%len(list)]
			ends := []impl.Point{a, b}
			if (a.X+b.X)%2 == 0 && (a.Y+b.Y)%2 == 0 {
				ends = append(ends, point((a.X+b.X)/2, (a.Y+b.Y)/2))
			}
			ends = append(ends, point(2*b.X-a.X, 2*b.Y-a.Y), point(2*a.X-b.X, 2*a.Y-b.Y))
			for _, p := range ends {
				for place := range len(list) + 1 {
					if other := withCorner(list, place, p); impl.ConvexValid(other) {
						t.Errorf("ConvexValid(%v) is true", other)
					}
				}
			}
		}
	}
}

// Promise 48. A corner twice in place of another one, or as one more.
func TestEqualCorners(t *testing.T) {
	for _, list := range samplePolygons() {
		for k := range list {
			for place := range list {
				if other := spoiled(list, place, list[k]); place != k && impl.ConvexValid(other) {
					t.Errorf("ConvexValid(%v) is true", other)
				}
				if other := withCorner(list, place, list[k]); impl.ConvexValid(other) {
					t.Errorf("ConvexValid(%v) is true", other)
				}
			}
		}
	}
}

// Promise 48. No corner alone tells that these lists are not convex.
func TestListsThatWindTwice(t *testing.T) {
	for _, list := range windings() {
		n := len(list)
		for k := range list {
			if turn(list[k], list[(k+1)%n], list[(k+2)%n]) <= 0 {
				t.Errorf("%v does not turn left at every corner", list)
			}
			if other := rotatedList(list, k); impl.ConvexValid(other) {
				t.Errorf("ConvexValid(%v) is true", other)
			}
		}
	}
}

// Promise 48, for invalid corners.
func TestInvalidCorners(t *testing.T) {
	for _, bad := range invalidPoints() {
		for n := 1; n <= mostCorners; n++ {
			for k := range n {
				if other := spoiled(roundCorners[:n], k, bad); impl.ConvexValid(other) {
					t.Errorf("ConvexValid(%v) is true", other)
				}
			}
			if impl.ConvexValid(repeatedPoint(bad, n)) {
				t.Errorf("%d times %v is convex", n, bad)
			}
		}
	}
}

// Promise 48. These would be convex, if one corner were not one unit too far out.
func TestCornersBeyondTheBounds(t *testing.T) {
	g := greatest
	for _, list := range [][]impl.Point{
		pointsOf(0, -g, g, 0, 0, g, -g, 0),
		pointsOf(-g, -g, g, -g, g, g, -g, g),
		pointsOf(-1, -g, 1, -g, g, -1, g, 1, 1, g, -1, g, -g, 1, -g, -1),
	} {
		if !impl.ConvexValid(list) {
			t.Errorf("ConvexValid(%v) is false", list)
		}
		for k, p := range list {
			for _, far := range []impl.Point{point(p.X+p.X/g, p.Y), point(p.X, p.Y+p.Y/g), point(p.X+p.X/g, p.Y+p.Y/g)} {
				other := spoiled(list, k, far)
				if far != p && (!isConvexList(other) || impl.ConvexValid(other)) {
					t.Errorf("ConvexValid(%v) is %v", other, impl.ConvexValid(other))
				}
			}
		}
	}
}

// Promise 129.
func TestTrianglesHaveAreas(t *testing.T) {
	check := func(a impl.Point, b impl.Point, c impl.Point) {
		area := max(0, turn(a, b, c))
		list := []impl.Point{a, b, c}
		if impl.ConvexValid(list) != (searchOrientation(a, b, c) > 0) {
			t.Errorf("ConvexValid(%v) is %v", list, impl.ConvexValid(list))
		}
		if got := impl.DoubleArea(list); got != area {
			t.Errorf("DoubleArea(%v) is %d, not %d", list, got, area)
		}
	}
	for _, grid := range [][]impl.Point{gridOf(-2, -1, 0, 1, 2), gridOf(-greatest, -greatest+1, 0, greatest-1, greatest)} {
		for _, a := range grid {
			for _, b := range grid {
				for _, c := range grid {
					check(a, b, c)
				}
			}
		}
	}
}

// Promise 129, for invalid points.
func TestNoTrianglesOfInvalidPoints(t *testing.T) {
	for _, bad := range invalidPoints() {
		for _, list := range [][]impl.Point{{bad, point(4, 0), point(0, 4)}, {point(0, 0), bad, point(0, 4)}, {point(0, 0), point(4, 0), bad}, {bad, bad, bad}} {
			for _, other := range [][]impl.Point{list, reversedPoints(list)} {
				if impl.ConvexValid(other) || impl.DoubleArea(other) != 0 {
					t.Errorf("%v is a convex polygon, or has an area", other)
				}
			}
		}
	}
}

func TestInsideConvexExamples(t *testing.T) {
	square, wedge := pointsOf(0, 0, 4, 0, 4, 4, 0, 4), pointsOf(0, 0, 6, 2, 2, 6)
	for _, c := range []struct {
		list []impl.Point
		p    impl.Point
		want bool
	}{
		{square, point(2, 2), true},
		{square, point(0, 0), true},
		{square, point(4, 4), true},
		{square, point(4, 2), true},
		{square, point(2, 0), true},
		{square, point(5, 2), false},
		{square, point(-1, 2), false},
		{square, point(2, 5), false},
		{square, point(2, -1), false},
		// Beyond an edge, on its line.
		{square, point(5, 0), false},
		{square, point(-1, 0), false},
		{square, point(4, 5), false},
		{square, point(0, -1), false},
		{square, point(5, 5), false},
		// On an edge, next to it, and in the box only.
		{wedge, point(3, 1), true},
		{wedge, point(4, 4), true},
		{wedge, point(1, 3), true},
		{wedge, point(9, 3), false},
		{wedge, point(3, 0), false},
		{wedge, point(5, 4), false},
		{wedge, point(2, 1), true},
		// An invalid point, or no convex list.
		{square, point(greatest+1, 2), false},
		{square, point(2, -greatest-1), false},
		{reversedPoints(square), point(2, 2), false},
		{square[:2], point(2, 0), false},
		{nil, point(0, 0), false},
	} {
		if got := impl.InsideConvex(c.list, c.p); got != c.want {
			t.Errorf("InsideConvex(%v, %v) is %v", c.list, c.p, got)
		}
	}
}

// checkInside compares with the sum of the areas of triangles, for every first
// corner.
func checkInside(t *testing.T, list []impl.Point, p impl.Point) {
	want := impl.PointValid(p) && areaWith(list, p) == areaByTriangles(list)
	for k := range list {
		if got := impl.InsideConvex(rotatedList(list, k), p); got != want {
			t.Errorf("InsideConvex(%v, %v) is %v", rotatedList(list, k), p, got)
		}
	}
}

// Promise 49.
func TestCornersAreInside(t *testing.T) {
	for _, list := range samplePolygons() {
		for _, corner := range list {
			for first := range list {
				if other := rotatedList(list, first); !impl.InsideConvex(other, corner) {
					t.Errorf("the corner %v of %v is not inside", corner, other)
				}
			}
			for _, step := range gridOf(-1, 0, 1) {
				checkInside(t, list, point(corner.X+step.X, corner.Y+step.Y))
			}
		}
	}
}

// Promise 49. The middles are exact, because the polygons are scaled by 2.
func TestMiddlesAreInside(t *testing.T) {
	for _, small := range smallPolygons() {
		list := placed(small, 2, point(-2, -2))
		for k, a := range list {
			for _, b := range list {
				if p := impl.Midpoint(a, b); !impl.InsideConvex(list, p) {
					t.Errorf("the middle %v of two corners of %v is not inside", p, list)
				}
			}
			// Beyond the next edge, on its line, in both directions.
			b := list[(k+1)%len(list)]
			for _, p := range pointsOf(2*b.X-a.X, 2*b.Y-a.Y, 2*a.X-b.X, 2*a.Y-b.Y) {
				if impl.InsideConvex(list, p) {
					t.Errorf("%v, beyond an edge of %v, is inside", p, list)
				}
			}
		}
	}
}

// Promise 49. Points around small polygons, and at the bounds of large ones.
func TestPointsInsideAndOutside(t *testing.T) {
	around := gridOf(-2, -1, 0, 1, 2, 3, 4, 5, 6)
	for _, small := range smallPolygons() {
		list := placed(small, 2, point(0, 0))
		for _, p := range around {
			checkInside(t, list, p)
		}
	}
	for n := 3; n <= mostCorners; n++ {
		for _, p := range gridOf(-5, -4, -3, -2, -1, 0, 1, 2, 3, 4, 5, 6, 7, 8, 9, 10) {
			checkInside(t, roundCorners[:n], p)
			checkInside(t, roundCorners[16-n:], p)
		}
	}
	for _, list := range largePolygons() {
		for _, p := range samplePoints() {
			checkInside(t, list, p)
		}
	}
}

// Promise 49, for invalid points and for lists that are not convex.
func TestInsideConvexOfInvalidArguments(t *testing.T) {
	whole := pointsOf(-greatest, -greatest, greatest, -greatest, greatest, greatest, -greatest, greatest)
	for _, bad := range invalidPoints() {
		for _, list := range [][]impl.Point{whole, roundCorners[:mostCorners], pointsOf(0, 0, 1, 0, 0, 1), nil} {
			if impl.InsideConvex(list, bad) {
				t.Errorf("InsideConvex(%v, %v) is true", list, bad)
			}
		}
	}
	for _, list := range notConvex() {
		points := append(gridOf(-1, 0, 1, 2, 3, 4), roundCorners...)
		for _, p := range append(points, badPoints...) {
			if impl.InsideConvex(list, p) {
				t.Errorf("InsideConvex(%v, %v) is true", list[:min(len(list), 9)], p)
			}
		}
	}
}

func TestDoubleAreaExamples(t *testing.T) {
	for _, c := range []struct {
		list []impl.Point
		want int
	}{
		{pointsOf(0, 0, 1, 0, 0, 1), 1},
		{pointsOf(0, 0, 4, 0, 0, 3), 12},
		{pointsOf(-7, -5, -3, -5, -7, -2), 12},
		{pointsOf(0, 0, 4, 0, 4, 4, 0, 4), 32},
		{pointsOf(4, 4, 0, 4, 0, 0, 4, 0), 32},
		{pointsOf(1, 0, 2, 0, 3, 1, 3, 2, 2, 3, 1, 3, 0, 2, 0, 1), 14},
		{pointsOf(-greatest, -greatest, greatest, -greatest, greatest, greatest, -greatest, greatest), 800000000},
		{pointsOf(-greatest, -greatest, greatest, greatest-1, greatest, greatest), 20000},
		{pointsOf(0, 4, 4, 4, 4, 0, 0, 0), 0},
		{pointsOf(0, 0, 4, 0, 8, 0), 0},
		{pointsOf(0, 0, 4, 0, 0, 4, 0, 0, 4, 0, 0, 4), 0},
		{pointsOf(0, 0, 4, 0), 0},
		{roundCorners[:9], 0},
		{pointsOf(0, 0, greatest+1, 0, 0, 4), 0},
		{nil, 0},
	} {
		if got := impl.DoubleArea(c.list); got != c.want {
			t.Errorf("DoubleArea(%v) is %d, not %d", c.list, got, c.want)
		}
	}
}

// Promise 53.
func TestAreasArePositive(t *testing.T) {
	for _, list := range samplePolygons() {
		got := impl.DoubleArea(list)
		if got <= 0 || got != areaByTriangles(list) {
			t.Errorf("DoubleArea(%v) is %d", list, got)
		}
		for k := range list {
			if other := impl.DoubleArea(rotatedList(list, k)); other != got {
				t.Errorf("DoubleArea(%v) is %d, not %d", rotatedList(list, k), other, got)
			}
			rest := slices.Delete(slices.Clone(list), k, k+1)
			less := impl.DoubleArea(rest)
			if less != max(0, areaByTriangles(rest)) || less >= got || (less > 0) != (len(list) > 3) {
				t.Errorf("DoubleArea(%v) is %d, with one corner more %d", rest, less, got)
			}
		}
	}
}

// Promise 53. The place does not matter, and the size counts by its square.
func TestAreasOfPlacedPolygons(t *testing.T) {
	for _, list := range smallPolygons() {
		for _, factor := range []int{1, 2, 17, 5000} {
			for _, by := range gridOf(0, -3, -greatest, greatest-2*factor) {
				other := placed(list, factor, by)
				if got, want := impl.DoubleArea(other), factor*factor*areaByTriangles(list); got != want {
					t.Errorf("DoubleArea(%v) is %d, not %d", other, got, want)
				}
			}
		}
	}
}

// Promise 53, for lists that are not convex.
func TestNoAreaOfListsThatAreNotConvex(t *testing.T) {
	lists := notConvex()
	for _, list := range samplePolygons() {
		lists = append(lists, reversedPoints(list))
	}
	for _, list := range lists {
		if got := impl.DoubleArea(list); got != 0 {
			t.Errorf("DoubleArea(%v) is %d", list[:min(len(list), 9)], got)
		}
	}
}
