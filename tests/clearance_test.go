package tests

import (
	"slices"
	"testing"

	"loop.example/robotcell/impl"
)

const widest = 1000

// wrongDistances are out of range.
var wrongDistances = append([]int{-2, -1, widest + 1, widest + 2, -widest}, extremes...)

// distances are in range: both bounds, and numbers between them.
var distances = []int{0, 1, 2, 3, 10, 99, 500, widest - 1, widest}

// greatestKept is the greatest distance that is kept, by the whole root of the
// least square; -1 if none is. It expects obstacles that are convex.
func greatestKept(obstacles [][]impl.Point, p impl.Point) int {
	if len(obstacles) > mostCorners {
		return -1
	}
	most := widest
	for _, list := range obstacles {
		square := squareToEdges(list, p)
		if square < 0 {
			return -1
		}
		most = min(most, impl.SquareRoot(square))
	}
	return most
}

// sameObstacles is n times the same obstacle.
func sameObstacles(list []impl.Point, n int) [][]impl.Point {
	return slices.Repeat([][]impl.Point{list}, n)
}

// withObstacle is a list of obstacles with one replaced.
func withObstacle(obstacles [][]impl.Point, k int, list []impl.Point) [][]impl.Point {
	other := slices.Clone(obstacles)
	other[k] = list
	return other
}

// squareAt has sides of the length 10.
func squareAt(x int, y int) []impl.Point {
	return pointsOf(x, y, x+10, y, x+10, y+10, x, y+10)
}

// ring are obstacles in all directions from the point (5, 5), as many as are
// allowed.
func ring() [][]impl.Point {
	return [][]impl.Point{
		squareAt(105+5, 5), squareAt(0, 101+5), squareAt(5-102-10, -3), squareAt(2, 5-103-10),
		pointsOf(109, 5, 209, -95, 209, 105), pointsOf(5, 110, 105, 210, -95, 210),
		pointsOf(-101, 5, -201, 105, -201, -95), pointsOf(5, -102, -95, -202, 105, -202),
	}
}

// ringDistances are those of the ring from the point (5, 5).
var ringDistances = []int{105, 101, 102, 103, 104, 105, 106, 107}

func TestKeepsClearExamples(t *testing.T) {
	f, g := farthest, greatest
	square, far := pointsOf(0, 0, 4, 0, 4, 4, 0, 4), pointsOf(50, 0, 60, 0, 60, 10)
	corner := pointsOf(-f, -f, -f+1, -f, -f, -f+1)
	for _, c := range []struct {
		obstacles [][]impl.Point
		p         impl.Point
		distance  int
		want      bool
	}{
		// One obstacle: beside it, and beyond a corner, also where no whole
		// distance is exact.
		{[][]impl.Point{square}, point(7, 4), 3, true},
		{[][]impl.Point{square}, point(7, 4), 4, false},
		{[][]impl.Point{square}, point(7, 8), 5, true},
		{[][]impl.Point{square}, point(7, 8), 6, false},
		{[][]impl.Point{square}, point(5, 5), 1, true},
		{[][]impl.Point{square}, point(5, 5), 2, false},
		{[][]impl.Point{square}, point(-2, -2), 2, true},
		{[][]impl.Point{square}, point(-2, -2), 3, false},
		// Inside, and on the border.
		{[][]impl.Point{square}, point(2, 2), 0, true},
		{[][]impl.Point{square}, point(2, 2), 1, false},
		{[][]impl.Point{square}, point(4, 2), 0, true},
		{[][]impl.Point{square}, point(4, 2), 1, false},
		// Several obstacles.
		{[][]impl.Point{square, far}, point(30, 0), 20, true},
		{[][]impl.Point{square, far}, point(30, 0), 21, false},
		{[][]impl.Point{far, square}, point(30, 0), 20, true},
		{[][]impl.Point{far, square}, point(30, 0), 21, false},
		{[][]impl.Point{far, square}, point(20, 0), 16, true},
		{[][]impl.Point{far, square}, point(20, 0), 17, false},
		{[][]impl.Point{square, square}, point(20, 0), 16, true},
		// The greatest distance, and distances out of range.
		{[][]impl.Point{corner}, point(1, -f), 1000, true},
		{[][]impl.Point{corner}, point(0, -f), 1000, false},
		{[][]impl.Point{corner}, point(0, -f), 999, true},
		{[][]impl.Point{corner}, point(f, f), 1000, true},
		{[][]impl.Point{corner}, point(f, f), 1001, false},
		{[][]impl.Point{square}, point(7, 4), -1, false},
		{[][]impl.Point{square}, point(7, 4), -3, false},
		// No obstacles.
		{nil, point(7, 4), 0, true},
		{nil, point(f, -f), 1000, true},
		{nil, point(f+1, 0), 1000, true},
		{nil, point(g+1, 0), 17, true},
		{nil, point(7, 4), -1, false},
		{nil, point(7, 4), 1001, false},
		{nil, point(g+1, 0), 1001, false},
		{[][]impl.Point{}, point(g+1, -g-1), 1000, true},
		{[][]impl.Point{}, point(0, 0), -1, false},
		// Not possible.
		{[][]impl.Point{nil}, point(7, 4), 0, false},
		{[][]impl.Point{square, {}}, point(7, 4), 0, false},
		{[][]impl.Point{square[:2]}, point(7, 4), 0, false},
		{[][]impl.Point{reversedPoints(square), square}, point(7, 4), 0, false},
		{[][]impl.Point{square}, point(f+1, 0), 0, false},
		{[][]impl.Point{square}, point(0, g+1), 0, false},
		{[][]impl.Point{square, pointsOf(0, 0, f+1, 0, 0, 4)}, point(7, 4), 0, false},
		// Too many.
		{sameObstacles(square, 8), point(7, 4), 3, true},
		{sameObstacles(square, 9), point(7, 4), 3, false},
		{sameObstacles(square, 9), point(7, 4), 0, false},
	} {
		if got := impl.KeepsClear(c.obstacles, c.p, c.distance); got != c.want {
			t.Errorf("KeepsClear(%v, %v, %d) is %v", c.obstacles, c.p, c.distance, got)
		}
	}
}

// checkClear tries the distances next to the greatest one that is kept, and
// those of a list.
func checkClear(t *testing.T, obstacles [][]impl.Point, p impl.Point) {
	most := greatestKept(obstacles, p)
	tried := append([]int{most - 1, most, most + 1}, distances...)
	for _, distance := range append(tried, wrongDistances...) {
		if got := impl.KeepsClear(obstacles, p, distance); got != (0 <= distance && distance <= most) {
			t.Errorf("KeepsClear(%v, %v, %d) is %v", obstacles, p, distance, got)
		}
	}
}

// Promise 56.
func TestWithoutObstaclesEveryDistanceIsKept(t *testing.T) {
	points := append(invalidPoints(), gridOf(tooFar...)...)
	points = append(points, gridOf(-farthest, -1, 0, 7, farthest)...)
	for _, none := range [][][]impl.Point{nil, {}, make([][]impl.Point, 0, 9), ring()[:0]} {
		for _, p := range points {
			for _, distance := range distances {
				if !impl.KeepsClear(none, p, distance) {
					t.Errorf("without obstacles, %v does not keep the distance %d", p, distance)
				}
			}
			for _, distance := range wrongDistances {
				if impl.KeepsClear(none, p, distance) {
					t.Errorf("without obstacles, %v keeps the distance %d", p, distance)
				}
			}
		}
	}
}

// Promise 56.
func TestTheDistanceZeroIsKept(t *testing.T) {
	points := gridOf(-farthest, -1, 0, 1, 2, farthest)
	for _, list := range nearPolygons() {
		for _, p := range append(points, list...) {
			if !impl.KeepsClear([][]impl.Point{list}, p, 0) || !impl.KeepsClear([][]impl.Point{ring()[0], list, list}, p, 0) {
				t.Errorf("%v does not keep the distance 0 from %v", p, list)
			}
		}
	}
}

// Promise 56. All distances are tried: the kept ones are those up to a greatest.
func TestSmallerDistancesAreKeptMoreEasily(t *testing.T) {
	for _, p := range gridOf(-farthest, -97, 0, 5, 110, 731, farthest) {
		for n := 1; n <= mostCorners; n++ {
			obstacles := ring()[:n]
			most := greatestKept(obstacles, p)
			for distance := -1; distance <= widest+1; distance++ {
				if got := impl.KeepsClear(obstacles, p, distance); got != (0 <= distance && distance <= most) {
					t.Errorf("KeepsClear(%v, %v, %d) is %v", obstacles, p, distance, got)
				}
			}
		}
	}
}

// Promise 122.
func TestClearDistancesAreMeasured(t *testing.T) {
	points := append(gridOf(-farthest, -5, 1, 444, farthest), gridOf(-2, 3)...)
	for _, list := range nearPolygons() {
		for _, p := range points {
			checkClear(t, [][]impl.Point{list}, p)
			square := impl.PolygonSquare(list, p)
			for _, distance := range distances {
				if got := impl.KeepsClear([][]impl.Point{list}, p, distance); got != (distance*distance <= square) {
					t.Errorf("KeepsClear of %v, %v and %d is %v, but the square distance is %d", list, p, distance, got, square)
				}
			}
		}
	}
}

// Promise 122. Every distance from a point that is just as far from an obstacle,
// and from one that is one unit nearer.
func TestEveryDistanceIsJustKept(t *testing.T) {
	f := farthest
	wall := [][]impl.Point{pointsOf(-f, -f, 0, -f, 0, f, -f, f)}
	for distance := range widest + 1 {
		for _, y := range []int{-f, 0, 77, f} {
			if !impl.KeepsClear(wall, point(distance, y), distance) {
				t.Errorf("%d is not kept at this distance", distance)
			}
			if distance > 0 && impl.KeepsClear(wall, point(distance-1, y), distance) {
				t.Errorf("%d is kept one unit nearer", distance)
			}
		}
	}
}

// Promise 122. The nearest obstacle counts, at every place of the list.
func TestTheNearestObstacleCounts(t *testing.T) {
	p, obstacles := point(5, 5), ring()
	for n := 1; n <= mostCorners; n++ {
		for first := range n {
			list := slices.Concat(obstacles[first:n], obstacles[:first])
			least := slices.Min(ringDistances[:n])
			if !impl.KeepsClear(list, p, least) || impl.KeepsClear(list, p, least+1) {
				t.Errorf("%d obstacles from number %d on are not at the distance %d", n, first, least)
			}
			checkClear(t, list, p)
		}
	}
	for k := range mostCorners {
		nearer := withObstacle(sameObstacles(obstacles[7], mostCorners), k, obstacles[1])
		if !impl.KeepsClear(nearer, p, 101) || impl.KeepsClear(nearer, p, 102) {
			t.Errorf("the nearest obstacle does not count at place %d", k)
		}
		if around := withObstacle(obstacles, k, squareAt(0, 0)); !impl.KeepsClear(around, p, 0) || impl.KeepsClear(around, p, 1) {
			t.Errorf("the obstacle around the point does not count at place %d", k)
		}
	}
}

// Promises 56 and 122, with more obstacles than are allowed, all of them far.
func TestTooManyObstacles(t *testing.T) {
	p := point(5, 5)
	for n := range mostCorners + 3 {
		obstacles := sameObstacles(ring()[3], n)
		for _, distance := range []int{0, 1, 102, 103} {
			if got := impl.KeepsClear(obstacles, p, distance); got != (n <= mostCorners) {
				t.Errorf("KeepsClear with %d obstacles and the distance %d is %v", n, distance, got)
			}
		}
	}
	roomy := append(ring(), nil, squareAt(0, 0))
	if !impl.KeepsClear(roomy[:mostCorners], p, 101) || !impl.KeepsClear(roomy[:2], p, 101) {
		t.Error("what lies behind the end of the list counts as an obstacle")
	}
	for _, bad := range badPoints {
		if impl.KeepsClear(sameObstacles(ring()[0], mostCorners+1), bad, 0) {
			t.Errorf("%v keeps clear of too many obstacles", bad)
		}
	}
}

// checkNeverClear tries an obstacle alone, and at every place among others.
func checkNeverClear(t *testing.T, list []impl.Point, p impl.Point) {
	for n := 1; n <= mostCorners; n++ {
		for k := range n {
			obstacles := withObstacle(ring()[:n], k, list)
			for _, distance := range []int{-1, 0, 1, widest} {
				if impl.KeepsClear(obstacles, p, distance) {
					t.Errorf("%v keeps the distance %d from %v among %d obstacles", p, distance, list[:min(len(list), 9)], n)
				}
			}
		}
	}
}

// Promise 122, for an obstacle for which PolygonSquare is not possible, at every
// place.
func TestObstaclesThatAreNotPossible(t *testing.T) {
	for _, list := range append(notConvex(), farPolygons()...) {
		checkNeverClear(t, list, point(5, 5))
		checkNeverClear(t, list, point(-farthest, farthest))
	}
}

// Promise 122, for a point for which PolygonSquare is not possible.
func TestPointsThatAreNotPossible(t *testing.T) {
	points := append(invalidPoints(), gridOf(tooFar...)...)
	for _, c := range tooFar {
		points = append(points, point(c, 0), point(0, c), point(c, -farthest), point(farthest, c))
	}
	for _, p := range points {
		for n := 1; n <= mostCorners; n++ {
			for _, distance := range []int{-1, 0, 1, widest} {
				if impl.KeepsClear(ring()[:n], p, distance) {
					t.Errorf("%v keeps the distance %d", p, distance)
				}
			}
		}
	}
}

// Promises 56 and 122, for distances out of range.
func TestDistancesOutOfRange(t *testing.T) {
	for _, distance := range wrongDistances {
		for _, p := range gridOf(-farthest, 5, farthest) {
			for n := range mostCorners + 1 {
				if impl.KeepsClear(ring()[:n], p, distance) {
					t.Errorf("%v keeps the distance %d from %d obstacles", p, distance, n)
				}
			}
		}
	}
}

// Promises 55, 56 and 122. No argument is changed, nor what lies behind its end.
func TestClearancesChangeNothing(t *testing.T) {
	lists := append(nearPolygons(), notConvex()...)
	for _, list := range append(lists, farPolygons()...) {
		given := roomyPoints(list)
		before := slices.Clone(whole(given))
		obstacles := append(ring()[:2:2], given, squareAt(0, 0))[:3]
		rows := slices.Clone(whole(obstacles))
		for _, p := range pointsOf(1, 1, -farthest, 9, farthest+1, 0) {
			impl.PolygonSquare(given, p)
			for _, distance := range []int{0, 3, widest} {
				impl.KeepsClear(obstacles, p, distance)
			}
		}
		same := func(a []impl.Point, b []impl.Point) bool { return slices.Equal(a, b) }
		if !slices.Equal(whole(given), before) || !slices.EqualFunc(whole(obstacles), rows, same) || !slices.EqualFunc(obstacles[:2], ring()[:2], same) {
			t.Errorf("the argument %v is changed", list)
		}
	}
}
