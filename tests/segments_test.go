package tests

import (
	"slices"
	"testing"

	"loop.example/robotcell/impl"
)

// meetByShares computes where the lines of two segments cross, as shares of the
// two ways. Without such a point, the segments can only meet at one of the ends.
func meetByShares(a impl.Point, b impl.Point, c impl.Point, d impl.Point) bool {
	cross := func(px int, py int, qx int, qy int) int { return px*qy - py*qx }
	whole := cross(b.X-a.X, b.Y-a.Y, d.X-c.X, d.Y-c.Y)
	if whole == 0 {
		return onSegment(a, c, d) || onSegment(b, c, d) || onSegment(c, a, b) || onSegment(d, a, b)
	}
	first, second := cross(c.X-a.X, c.Y-a.Y, d.X-c.X, d.Y-c.Y), cross(c.X-a.X, c.Y-a.Y, b.X-a.X, b.Y-a.Y)
	if whole < 0 {
		whole, first, second = -whole, -first, -second
	}
	return 0 <= first && first <= whole && 0 <= second && second <= whole
}

// hitByCutting cuts off from the segment what is to the right of every edge. What
// is left is the part from the share low to the share high of the way to b.
func hitByCutting(list []impl.Point, a impl.Point, b impl.Point) bool {
	type share struct{ part, whole int }
	less := func(s share, u share) bool { return s.part*u.whole < u.part*s.whole }
	low, high := share{0, 1}, share{1, 1}
	for k, p := range list {
		q := list[(k+1)%len(list)]
		from, to := turn(p, q, a), turn(p, q, b)
		if from < 0 && to < 0 {
			return false
		}
		if from < 0 && less(low, share{-from, to - from}) {
			low = share{-from, to - from}
		}
		if to < 0 && less(share{from, from - to}, high) {
			high = share{from, from - to}
		}
	}
	return !less(high, low)
}

// hasEdgeBetween reports whether all corners of b are strictly to the right of
// an edge of a.
func hasEdgeBetween(a []impl.Point, b []impl.Point) bool {
	for k, p := range a {
		q := a[(k+1)%len(a)]
		if !slices.ContainsFunc(b, func(corner impl.Point) bool { return turn(p, q, corner) >= 0 }) {
			return true
		}
	}
	return false
}

// meetByEdges uses that an edge of one of them lies between two convex polygons
// that are apart.
func meetByEdges(a []impl.Point, b []impl.Point) bool {
	return !hasEdgeBetween(a, b) && !hasEdgeBetween(b, a)
}

// checkSegments tries every exchange of the segments and of their ends.
func checkSegments(t *testing.T, a impl.Point, b impl.Point, c impl.Point, d impl.Point, want bool) {
	for _, s := range [][4]impl.Point{
		{a, b, c, d}, {b, a, c, d}, {a, b, d, c}, {b, a, d, c},
		{c, d, a, b}, {c, d, b, a}, {d, c, a, b}, {d, c, b, a},
	} {
		if got := impl.SegmentsMeet(s[0], s[1], s[2], s[3]); got != want {
			t.Errorf("SegmentsMeet(%v, %v, %v, %v) is %v", s[0], s[1], s[2], s[3], got)
		}
	}
}

func TestSegmentsMeetExamples(t *testing.T) {
	g := greatest
	for _, c := range []struct {
		points []impl.Point
		want   bool
	}{
		// Across each other.
		{pointsOf(0, 0, 4, 4, 0, 4, 4, 0), true},
		{pointsOf(0, 0, 1, 1, 0, 1, 1, 0), true},
		{pointsOf(0, 0, 6, 0, 3, -1, 3, 1), true},
		{pointsOf(-g, -g, g, g, -g, g, g, -g), true},
		// One ends before the other.
		{pointsOf(0, 0, 6, 0, 3, 1, 3, 2), false},
		{pointsOf(0, 0, 4, 4, 0, 4, 1, 2), false},
		{pointsOf(0, 0, 4, 4, 5, 0, 3, 2), false},
		{pointsOf(0, 0, 6, 0, 7, -1, 7, 1), false},
		// An end in the middle of the other one, or at its end.
		{pointsOf(0, 0, 6, 0, 3, 0, 3, 2), true},
		{pointsOf(0, 0, 6, 4, 3, 2, 0, 9), true},
		{pointsOf(0, 0, 2, 0, 2, 0, 5, 5), true},
		{pointsOf(0, 0, 2, 0, 0, 0, -5, 5), true},
		// On one line.
		{pointsOf(0, 0, 4, 0, 2, 0, 6, 0), true},
		{pointsOf(0, 0, 6, 0, 2, 0, 4, 0), true},
		{pointsOf(0, 0, 4, 0, 4, 0, 6, 0), true},
		{pointsOf(0, 0, 4, 0, 5, 0, 6, 0), false},
		{pointsOf(0, 0, 0, 4, 0, 5, 0, 6), false},
		{pointsOf(0, 0, 1, 1, 2, 2, 3, 3), false},
		{pointsOf(0, 0, 2, 2, 2, 2, 3, 3), true},
		{pointsOf(0, 3, 3, 0, 1, 2, 2, 1), true},
		{pointsOf(0, 3, 1, 2, 2, 1, 3, 0), false},
		{pointsOf(1, 2, 5, 3, 1, 2, 5, 3), true},
		// Parallel.
		{pointsOf(0, 0, 4, 0, 0, 1, 4, 1), false},
		{pointsOf(0, 0, 4, 4, 1, 0, 5, 4), false},
		{pointsOf(-g, -g, g, g-1, -g, -g+1, g, g), false},
		// Of length 0: on a segment, beside it, on its line, and two of them.
		{pointsOf(2, 1, 2, 1, 0, 0, 4, 2), true},
		{pointsOf(4, 2, 4, 2, 0, 0, 4, 2), true},
		{pointsOf(2, 2, 2, 2, 0, 0, 4, 2), false},
		{pointsOf(6, 3, 6, 3, 0, 0, 4, 2), false},
		{pointsOf(3, -5, 3, -5, 3, -5, 3, -5), true},
		{pointsOf(3, -5, 3, -5, 3, -4, 3, -4), false},
		{pointsOf(3, -5, 3, -5, 2, -5, 2, -5), false},
		// An invalid point.
		{pointsOf(0, 0, g+1, 0, 0, 0, 4, 0), false},
		{pointsOf(0, -g-1, 0, 0, 0, 0, 4, 0), false},
		{pointsOf(g+1, 0, g+1, 0, g+1, 0, g+1, 0), false},
	} {
		p := c.points
		checkSegments(t, p[0], p[1], p[2], p[3], c.want)
	}
}

// eachPair calls a function with all segments between points of a list. The
// ends are in the order of the list, or equal.
func eachPair(points []impl.Point, call func(a impl.Point, b impl.Point)) {
	for k, b := range points {
		for _, a := range points[:k+1] {
			call(a, b)
		}
	}
}

// Promise 50.
func TestMeetingOfSegmentsIsSymmetric(t *testing.T) {
	for _, grid := range [][]impl.Point{
		gridOf(0, 1, 2, 3, 4),
		gridOf(-greatest, -greatest+1, 0, greatest-1, greatest),
		gridOf(-greatest, -1, 0, 7, 4999),
	} {
		eachPair(grid, func(a impl.Point, b impl.Point) {
			eachPair(grid, func(c impl.Point, d impl.Point) {
				checkSegments(t, a, b, c, d, meetByShares(a, b, c, d))
			})
		})
	}
	for _, list := range scatteredLists(3200, 8) {
		if len(list) >= 4 {
			a, b, c, d := list[0], list[1], list[2], list[3]
			checkSegments(t, a, b, c, d, meetByShares(a, b, c, d))
		}
	}
}

// Promise 50.
func TestSegmentsWithACommonEndMeet(t *testing.T) {
	points := gridOf(-greatest, -2, 0, 1, greatest)
	for _, a := range points {
		eachPair(points, func(b impl.Point, c impl.Point) {
			checkSegments(t, a, b, a, c, true)
		})
	}
}

// Promise 50. The middle is exact where both ends are even or both are odd.
func TestTheMiddleMeetsItsSegment(t *testing.T) {
	eachPair(samplePoints(), func(a impl.Point, b impl.Point) {
		middle := impl.Midpoint(a, b)
		if exact := middle.X*2 == a.X+b.X && middle.Y*2 == a.Y+b.Y; exact {
			checkSegments(t, a, b, middle, middle, true)
			checkSegments(t, a, b, middle, point(17, -greatest), true)
		}
	})
}

// Promise 50. Next to a segment, and beyond its ends, there is no common point.
func TestSegmentsNextToEachOther(t *testing.T) {
	for _, way := range pointsOf(1, 0, 0, 1, 1, 1, -1, 1, 3, 2, -7, 5, 999, -998) {
		at := func(k int) impl.Point { return point(13+k*way.X, -8+k*way.Y) }
		for i := -3; i <= 3; i++ {
			for j := -3; j <= 3; j++ {
				checkSegments(t, at(-1), at(1), at(i), at(j), min(i, j) <= 1 && max(i, j) >= -1)
				beside := point(at(j).X-way.Y, at(j).Y+way.X)
				checkSegments(t, at(-1), at(1), at(i), beside, -1 <= i && i <= 1)
			}
		}
	}
}

// Promise 50, for invalid points, also where the others are equal or on one line.
func TestSegmentsOfInvalidPoints(t *testing.T) {
	for _, bad := range invalidPoints() {
		for _, list := range [][]impl.Point{pointsOf(0, 0, 0, 0, 0, 0), pointsOf(0, 0, 1, 0, 2, 0), pointsOf(0, 0, 4, 4, 0, 4), {bad, bad, bad}} {
			checkSegments(t, bad, list[0], list[1], list[2], false)
			checkSegments(t, bad, list[2], list[0], list[1], false)
			checkSegments(t, bad, list[1], list[2], list[0], false)
		}
		checkSegments(t, bad, bad, point(0, 0), point(0, 0), false)
		checkSegments(t, bad, point(0, 0), bad, point(0, 0), false)
	}
}

func TestSegmentHitsExamples(t *testing.T) {
	square := pointsOf(0, 0, 4, 0, 4, 4, 0, 4)
	for _, c := range []struct {
		list []impl.Point
		a, b impl.Point
		want bool
	}{
		// Both ends inside, one of them, none.
		{square, point(1, 1), point(2, 2), true},
		{square, point(1, 1), point(9, 9), true},
		{square, point(2, 2), point(-9, 1), true},
		{square, point(-1, 2), point(9, 2), true},
		{square, point(-1, 1), point(1, -1), true},
		{square, point(-1, -1), point(5, 5), true},
		// Through one corner only.
		{square, point(-2, 2), point(2, -2), true},
		{square, point(3, 5), point(5, 3), true},
		{square, point(-3, 2), point(2, -2), false},
		// Along an edge, in part, beyond it, and next to it.
		{square, point(0, 0), point(4, 0), true},
		{square, point(-5, 0), point(9, 0), true},
		{square, point(1, 4), point(3, 4), true},
		{square, point(4, 4), point(4, 9), true},
		{square, point(4, 5), point(4, 9), false},
		{square, point(-5, -1), point(9, -1), false},
		// Outside.
		{square, point(-1, 2), point(-1, 9), false},
		{square, point(5, 0), point(5, 4), false},
		{square, point(6, 0), point(4, 9), false},
		// Of length 0.
		{square, point(2, 2), point(2, 2), true},
		{square, point(4, 1), point(4, 1), true},
		{square, point(0, 4), point(0, 4), true},
		{square, point(5, 1), point(5, 1), false},
		{square, point(4, 5), point(4, 5), false},
		// Invalid ends, or no convex list.
		{square, point(2, 2), point(greatest+1, 2), false},
		{square, point(2, 2), point(2, -greatest-1), false},
		{reversedPoints(square), point(1, 1), point(2, 2), false},
		{square[:2], point(0, 0), point(4, 0), false},
		{nil, point(0, 0), point(4, 0), false},
	} {
		if impl.SegmentHits(c.list, c.a, c.b) != c.want || impl.SegmentHits(c.list, c.b, c.a) != c.want {
			t.Errorf("SegmentHits(%v, %v, %v) is not %v, in one of both orders", c.list, c.a, c.b, c.want)
		}
	}
}

// checkHits tries both orders of the ends.
func checkHits(t *testing.T, list []impl.Point, a impl.Point, b impl.Point) {
	want := hitByCutting(list, a, b)
	if got := impl.SegmentHits(list, a, b); got != want {
		t.Errorf("SegmentHits(%v, %v, %v) is %v", list, a, b, got)
	}
	if got := impl.SegmentHits(list, b, a); got != want {
		t.Errorf("SegmentHits(%v, %v, %v) is %v", list, b, a, got)
	}
	if (impl.InsideConvex(list, a) || impl.InsideConvex(list, b)) && !want {
		t.Errorf("%v or %v is inside %v, but their segment does not hit it", a, b, list)
	}
	for k, p := range list {
		if q := list[(k+1)%len(list)]; !want && impl.SegmentsMeet(a, b, p, q) {
			t.Errorf("the segment from %v to %v meets the edge from %v to %v, but does not hit %v", a, b, p, q, list)
		}
	}
}

// Promise 51.
func TestSegmentsWithAnEndInsideHit(t *testing.T) {
	for _, list := range smallPolygons() {
		eachPair(gridOf(-1, 0, 1, 2, 3), func(a impl.Point, b impl.Point) {
			checkHits(t, list, a, b)
		})
	}
	for _, list := range largePolygons() {
		eachPair(append(gridOf(-greatest, -5, 1, 4444, greatest-1, greatest), list...), func(a impl.Point, b impl.Point) {
			checkHits(t, list, a, b)
		})
	}
	for n := 3; n <= mostCorners; n++ {
		eachPair(append(gridOf(-6, -1, 2, 6, 10), roundCorners...), func(a impl.Point, b impl.Point) {
			checkHits(t, roundCorners[:n], a, b)
			checkHits(t, roundCorners[16-n:], a, b)
		})
	}
}

// Promise 51. A segment that only touches a corner still hits, at every corner.
func TestSegmentsThroughOneCorner(t *testing.T) {
	for _, list := range samplePolygons() {
		for k, corner := range list {
			before, after := list[(k+len(list)-1)%len(list)], list[(k+1)%len(list)]
			way := point(after.X-before.X, after.Y-before.Y)
			a, b := point(corner.X-way.X, corner.Y-way.Y), point(corner.X+way.X, corner.Y+way.Y)
			if !impl.PointValid(a) || !impl.PointValid(b) {
				continue
			}
			if !impl.SegmentHits(list, a, b) || !impl.SegmentHits(list, b, a) || impl.InsideConvex(list, a) || impl.InsideConvex(list, b) {
				t.Errorf("the segment from %v to %v does not touch the corner %v of %v", a, b, corner, list)
			}
		}
	}
}

// Promise 51. The first corner does not matter.
func TestSegmentsHitFromAnyFirstCorner(t *testing.T) {
	for _, list := range smallPolygons() {
		eachPair(gridOf(-1, 1, 3), func(a impl.Point, b impl.Point) {
			for k := range list {
				checkHits(t, rotatedList(list, k), a, b)
			}
		})
	}
}

// Promise 51, for invalid ends and for lists that are not convex.
func TestSegmentHitsOfInvalidArguments(t *testing.T) {
	check := func(list []impl.Point, a impl.Point, b impl.Point) {
		if impl.SegmentHits(list, a, b) || impl.SegmentHits(list, b, a) {
			t.Errorf("SegmentHits(%v, %v, %v) is true, in one of both orders", list[:min(len(list), 9)], a, b)
		}
	}
	for _, bad := range invalidPoints() {
		for _, list := range [][]impl.Point{largePolygons()[0], roundCorners[:mostCorners], nil} {
			for _, p := range append(roundCorners[:2:2], bad, point(1, 1), point(-greatest, greatest)) {
				check(list, bad, p)
			}
		}
	}
	for _, list := range notConvex() {
		eachPair(append(gridOf(-1, 1, 4), badPoints[0]), func(a impl.Point, b impl.Point) {
			check(list, a, b)
		})
		for _, p := range list[:min(len(list), 9)] {
			check(list, p, p)
			check(list, p, point(1, 1))
		}
	}
}

func TestConvexMeetExamples(t *testing.T) {
	square, ramp := pointsOf(0, 0, 4, 0, 4, 4, 0, 4), pointsOf(0, 0, 4, 4, 0, 4)
	for _, c := range []struct {
		a, b []impl.Point
		want bool
	}{
		{square, square, true},
		{square, rotatedList(square, 3), true},
		// One inside the other one, with and without a common border.
		{square, pointsOf(1, 1, 2, 1, 1, 2), true},
		{square, pointsOf(0, 0, 2, 0, 0, 2), true},
		{square, placed(square, 100, point(-150, -150)), true},
		// A common corner, and a part of an edge.
		{square, placed(square, 1, point(4, 4)), true},
		{square, placed(square, 1, point(-4, 4)), true},
		{square, placed(square, 1, point(4, 2)), true},
		{square, placed(square, 1, point(0, -4)), true},
		{ramp, pointsOf(1, 1, 3, 1, 3, 3), true},
		{ramp, pointsOf(2, 2, 9, 0, 9, 1), true},
		// Across each other, without a corner inside the other one.
		{pointsOf(-9, 1, 9, 1, 9, 2, -9, 2), pointsOf(1, -9, 2, -9, 2, 9, 1, 9), true},
		{pointsOf(0, 3, 9, 3, 9, 4, 0, 4), pointsOf(4, 0, 6, 0, 5, 9), true},
		// Apart, also in one box.
		{square, placed(square, 1, point(5, 0)), false},
		{square, placed(square, 1, point(5, 5)), false},
		{square, placed(square, 1, point(0, -5)), false},
		{ramp, pointsOf(1, 0, 4, 0, 4, 3), false},
		{ramp, pointsOf(3, 2, 9, 0, 9, 1), false},
		// One or both are not convex.
		{square, reversedPoints(square), false},
		{square, square[:2], false},
		{square, nil, false},
		{reversedPoints(square), reversedPoints(square), false},
		{nil, nil, false},
	} {
		if impl.ConvexMeet(c.a, c.b) != c.want || impl.ConvexMeet(c.b, c.a) != c.want {
			t.Errorf("ConvexMeet(%v, %v) is not %v, in one of both orders", c.a, c.b, c.want)
		}
	}
}

// checkPolygons tries both orders.
func checkPolygons(t *testing.T, a []impl.Point, b []impl.Point) {
	want := meetByEdges(a, b)
	if got := impl.ConvexMeet(a, b); got != want {
		t.Errorf("ConvexMeet(%v, %v) is %v", a, b, got)
	}
	if got := impl.ConvexMeet(b, a); got != want {
		t.Errorf("ConvexMeet(%v, %v) is %v", b, a, got)
	}
	inside := func(corner impl.Point) bool { return impl.InsideConvex(b, corner) }
	if slices.ContainsFunc(a, inside) && !want {
		t.Errorf("%v has a corner inside %v, but does not meet it", a, b)
	}
}

// Promise 52.
func TestMeetingOfPolygonsIsSymmetric(t *testing.T) {
	small := smallPolygons()
	for _, a := range small {
		for _, b := range small {
			for _, by := range pointsOf(0, 0, 1, 0, 2, 1, -1, 2, 0, 3) {
				checkPolygons(t, a, placed(b, 1, by))
			}
		}
	}
	large := largePolygons()
	for _, a := range large {
		for _, b := range large {
			checkPolygons(t, a, b)
		}
		for _, p := range a {
			checkPolygons(t, a, pointsOf(p.X/2, p.Y/2, p.X/2+1, p.Y/2, p.X/2, p.Y/2+1))
		}
	}
}

// Promise 52. Polygons of all sizes, one in the other one, across, and apart.
func TestMeetingOfPolygonsOfAllSizes(t *testing.T) {
	for n := 3; n <= mostCorners; n++ {
		for k := 0; k+n <= len(roundCorners); k += 3 {
			a := placed(roundCorners[k:k+n], 4, point(0, 0))
			for _, b := range [][]impl.Point{roundCorners[:3], roundCorners[:mostCorners], roundCorners[8:], placed(roundCorners[5:9], 30, point(-40, -100))} {
				for _, by := range gridOf(-25, -12, -4, 0, 3, 8, 16, 33) {
					checkPolygons(t, a, placed(b, 1, by))
				}
			}
		}
	}
}

// Promise 52.
func TestPolygonsMeetThemselvesAndTheirCorners(t *testing.T) {
	for _, list := range samplePolygons() {
		for k, p := range list {
			if !impl.ConvexMeet(list, rotatedList(list, k)) {
				t.Errorf("%v does not meet itself from corner %d on", list, k)
			}
			for _, way := range pointsOf(1, 1, -1, 1, -1, -1, 1, -1) {
				other := []impl.Point{p, point(p.X+way.X, p.Y), point(p.X, p.Y+way.Y)}
				if way.X*way.Y < 0 {
					other[1], other[2] = other[2], other[1]
				}
				if impl.ConvexValid(other) && (!impl.ConvexMeet(list, other) || !impl.ConvexMeet(other, list)) {
					t.Errorf("%v does not meet %v at a common corner", list, other)
				}
			}
		}
	}
}

// Promise 52, for lists that are not convex.
func TestConvexMeetOfListsThatAreNotConvex(t *testing.T) {
	bad := notConvex()
	good := [][]impl.Point{largePolygons()[0], roundCorners[:mostCorners], pointsOf(0, 0, 1, 0, 0, 1), nil}
	for _, a := range bad {
		for _, b := range append(good, bad[len(bad)/2], a) {
			if impl.ConvexMeet(a, b) || impl.ConvexMeet(b, a) {
				t.Errorf("ConvexMeet(%v, %v) is true, in one of both orders", a[:min(len(a), 9)], b[:min(len(b), 9)])
			}
		}
	}
}
