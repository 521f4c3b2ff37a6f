package tests

import (
	"slices"
	"testing"

	"loop.example/robotcell/impl"
)

const mostObstacles = impl.MaxObstacles

// diamondAt touches the lines at the distance 5 from its middle with one corner.
func diamondAt(x int, y int) []impl.Point {
	return pointsOf(x-5, y, x, y-5, x+5, y, x, y+5)
}

// farScene are as many obstacles as are allowed, which no arm of the examples
// reaches.
func farScene() [][]impl.Point {
	g := greatest
	return [][]impl.Point{
		squareAt(-3000, 10), pointsOf(2100, -50, 2200, -50, 2150, 50), placed(roundCorners[:mostCorners], 100, point(0, 2500)),
		pointsOf(-g, -g, g, -g, g, -3000, -g, -3000), diamondAt(5000, 5000), squareAt(2500, -3),
	}
}

// sampleScenes are valid. Some of them surround the base at different distances.
func sampleScenes() [][][]impl.Point {
	g := greatest
	return [][][]impl.Point{
		nil, {}, farScene(), ring()[:mostObstacles], ring()[2:],
		{squareAt(30, 30)},
		{squareAt(-60, -5), squareAt(95, 20), diamondAt(2, 7)},
		{squareAt(90, -5), squareAt(95, 0), squareAt(90, -5), squareAt(97, 5)},
		sameObstacles(squareAt(60, 60), mostObstacles),
		{placed(roundCorners[:mostCorners], 20, point(100, 100)), placed(roundCorners[8:], 30, point(-300, 200)), placed(roundCorners[2:6], 9, point(-40, -90))},
		{pointsOf(-g, -g, g, -g, g, -300), pointsOf(200, 1, g, g-1, g, g), pointsOf(-g, g, -g, g-1, -300, 100)},
		{diamondAt(500, 0), diamondAt(-500, 5), diamondAt(0, 505), diamondAt(6, -500)},
	}
}

// farNotConvex are no convex polygons, and no link reaches a corner of theirs.
func farNotConvex() [][]impl.Point {
	var lists [][]impl.Point
	for _, list := range notConvex() {
		if !slices.ContainsFunc(list, func(p impl.Point) bool { return !impl.PointValid(p) }) {
			lists = append(lists, placed(list, 1, point(3000, -2500)))
		}
	}
	for _, bad := range badPoints {
		lists = append(lists, spoiled(squareAt(3000, 0), 2, bad))
	}
	return lists
}

// invalidScenes have too many obstacles, or one that is not convex, at every
// place.
func invalidScenes() [][][]impl.Point {
	var scenes [][][]impl.Point
	for _, list := range append(notConvex(), farNotConvex()...) {
		scenes = append(scenes, [][]impl.Point{list})
		for k := range mostObstacles {
			scenes = append(scenes, withObstacle(farScene(), k, list))
		}
	}
	for n := 1; n <= 3; n++ {
		scenes = append(scenes, sameObstacles(squareAt(2500, 0), mostObstacles+n), append(farScene(), farScene()[:n]...))
	}
	return append(scenes, make([][]impl.Point, 1), make([][]impl.Point, mostObstacles), make([][]impl.Point, 1000))
}

// wantedClear expects valid angles and a valid scene.
func wantedClear(a impl.Arm, joints []int, obstacles [][]impl.Point) bool {
	ends := pointsByRotation(a.Links, joints)
	for k := range a.Links {
		for _, list := range obstacles {
			if hitByCutting(list, ends[k], ends[k+1]) {
				return false
			}
		}
	}
	return true
}

func TestMaxObstacles(t *testing.T) {
	if impl.MaxObstacles != 6 {
		t.Fatalf("MaxObstacles is %d", impl.MaxObstacles)
	}
}

func TestSceneValidExamples(t *testing.T) {
	g := greatest
	square, triangle := squareAt(0, 0), pointsOf(4, 2, 9, 0, 9, 5)
	for _, c := range []struct {
		obstacles [][]impl.Point
		want      bool
	}{
		{nil, true},
		{[][]impl.Point{}, true},
		{[][]impl.Point{square}, true},
		{[][]impl.Point{roundCorners[:3]}, true},
		{[][]impl.Point{roundCorners[:8]}, true},
		{[][]impl.Point{pointsOf(-g, -g, g, -g, g, g, -g, g)}, true},
		{farScene(), true},
		// Equal, within each other, across each other, and with a common corner.
		{[][]impl.Point{square, square}, true},
		{sameObstacles(square, 6), true},
		{[][]impl.Point{square, squareAt(5, 5), triangle, squareAt(10, 10), roundCorners[:8], squareAt(-1, 3)}, true},
		// Too many.
		{sameObstacles(square, 7), false},
		{append(farScene(), square), false},
		{sameObstacles(square, 1000), false},
		// Not convex: two corners or fewer, too many, clockwise, on one line.
		{[][]impl.Point{square[:2]}, false},
		{[][]impl.Point{square[:1]}, false},
		{[][]impl.Point{{}}, false},
		{[][]impl.Point{nil}, false},
		{[][]impl.Point{nil, nil, nil, nil, nil, nil, nil}, false},
		{[][]impl.Point{roundCorners[:9]}, false},
		{[][]impl.Point{reversedPoints(square)}, false},
		{[][]impl.Point{pointsOf(0, 0, 2, 0, 4, 0)}, false},
		{[][]impl.Point{pointsOf(0, 0, 4, 0, 1, 1, 0, 4)}, false},
		{[][]impl.Point{pointsOf(0, 0, g+1, 0, 0, 4)}, false},
		{[][]impl.Point{square, triangle, square[:2]}, false},
		{[][]impl.Point{square, reversedPoints(triangle), square}, false},
		{[][]impl.Point{nil, square, triangle}, false},
	} {
		if got := impl.SceneValid(c.obstacles); got != c.want {
			t.Errorf("SceneValid(%v) is %v", c.obstacles[:min(len(c.obstacles), 7)], got)
		}
	}
}

// Promise 57.
func TestPartsOfScenesAreScenes(t *testing.T) {
	for _, scene := range sampleScenes() {
		eachPart(scene, func(part [][]impl.Point) {
			if !impl.SceneValid(part) || !impl.SceneValid(part[:len(part):len(part)]) {
				t.Errorf("the part %v of %v is not valid", part, scene)
			}
			for k := range len(part) + 1 {
				for _, two := range [][]impl.Point{pointsOf(0, 0, 4, 0), roundCorners[:2], make([]impl.Point, 2)} {
					if other := slices.Insert(slices.Clone(part), k, two); impl.SceneValid(other) {
						t.Errorf("%v is valid, with an obstacle of two corners", other)
					}
				}
			}
		})
	}
}

// Promise 57, for every convex polygon, alone and several times.
func TestScenesOfConvexObstacles(t *testing.T) {
	for _, list := range samplePolygons() {
		for n := range mostObstacles + 4 {
			if got := impl.SceneValid(sameObstacles(list, n)); got != (n <= mostObstacles) {
				t.Errorf("the scene with %d times the obstacle %v is valid: %v", n, list, got)
			}
		}
	}
}

// Promise 57. Every obstacle counts, and none that lies behind the end.
func TestScenesWithAnObstacleThatIsNotConvex(t *testing.T) {
	for _, list := range notConvex() {
		for n := 1; n <= mostObstacles+1; n++ {
			for k := range n {
				scene := withObstacle(sameObstacles(squareAt(1, 1), n), k, list)
				if impl.SceneValid(scene) {
					t.Errorf("a scene of %d obstacles with %v at place %d is valid", n, list[:min(len(list), 9)], k)
				}
				if got := impl.SceneValid(scene[:k]); got != (k <= mostObstacles) {
					t.Errorf("the first %d obstacles before %v are valid: %v", k, list[:min(len(list), 9)], got)
				}
			}
		}
	}
	for _, bad := range invalidPoints() {
		for k := range mostObstacles {
			for corner := range 4 {
				if impl.SceneValid(withObstacle(farScene(), k, spoiled(squareAt(0, 0), corner, bad))) {
					t.Errorf("a scene with the corner %v in obstacle %d is valid", bad, k)
				}
			}
		}
	}
}

func TestArmClearExamples(t *testing.T) {
	a, joints := evenArm(-180, 180, 100, 50), []int{0, 90}
	g := greatest
	for _, c := range []struct {
		obstacle []impl.Point
		want     bool
	}{
		// Across the first link, which is on the X axis, or the second one.
		{pointsOf(50, -5, 60, -5, 55, 5), false},
		{pointsOf(50, -5, 60, -5, 55, -1), true},
		{pointsOf(90, 20, 110, 20, 100, 30), false},
		{pointsOf(-g, -g, g, -g, -g, g), false},
		// With a corner on a link, and one unit beside it.
		{pointsOf(50, 0, 60, 5, 50, 10), false},
		{pointsOf(50, 1, 60, 6, 50, 11), true},
		{diamondAt(50, -5), false},
		{diamondAt(50, -6), true},
		{diamondAt(95, 25), false},
		{diamondAt(94, 25), true},
		{diamondAt(105, 25), false},
		{diamondAt(106, 25), true},
		// With an edge along a link, and one unit beside it.
		{pointsOf(20, 0, 80, 0, 80, 10, 20, 10), false},
		{pointsOf(20, 1, 80, 1, 80, 10, 20, 10), true},
		{pointsOf(-20, 0, -20, -9, 200, -9, 200, 0), false},
		{pointsOf(-20, -1, -20, -9, 200, -9, 200, -1), true},
		{pointsOf(100, 10, 110, 10, 110, 90), false},
		{pointsOf(101, 10, 110, 10, 110, 90), true},
		// The tip ends on the obstacle, inside it, or next to it.
		{squareAt(95, 50), false},
		{squareAt(95, 51), true},
		{squareAt(95, 45), false},
		{squareAt(100, 50), false},
		{squareAt(101, 50), true},
		{squareAt(90, 50), false},
		{squareAt(89, 50), true},
		// A link inside, and the whole arm.
		{pointsOf(95, -5, 105, -5, 105, 55, 95, 55), false},
		{pointsOf(-5, -5, 105, -5, 105, 5, -5, 5), false},
		{pointsOf(-500, -500, 500, -500, 500, 500, -500, 500), false},
		{pointsOf(-g, -g, g, -g, g, g, -g, g), false},
		// Only on the line through a link: behind the base, or beyond an end.
		{squareAt(-11, -5), true},
		{pointsOf(-g, -1, -1, 0, -g, 1), true},
		{squareAt(101, -5), true},
		{squareAt(95, -11), true},
		{pointsOf(101, 0, g, -1, g, 1), true},
		{pointsOf(100, 51, 101, g, 99, g), true},
		{pointsOf(100, -1, 99, -g, 101, -g), true},
		// Around the base, with the base on an edge, at a corner, and outside.
		{squareAt(-5, -5), false},
		{squareAt(-10, -5), false},
		{squareAt(-5, -10), false},
		{squareAt(-10, -10), false},
		{squareAt(-10, 0), false},
		{squareAt(-11, 0), true},
		{squareAt(-5, -11), true},
		// Between the links.
		{pointsOf(1, 1, 99, 1, 99, 49), true},
		{pointsOf(0, 1, 99, 50, -50, 50), true},
	} {
		if got := impl.ArmClear(a, joints, [][]impl.Point{c.obstacle}); got != c.want {
			t.Errorf("ArmClear of %v at %v with the obstacle %v is %v", a, joints, c.obstacle, got)
		}
	}
}

// Promise 58. The stairs have links that can be met one by one, each at its
// middle, and are (0, 0), (40, 0), (40, 40), (80, 40), (80, 80).
func TestEveryLinkAndEveryObstacleCount(t *testing.T) {
	joints, middles := []int{0, 90, -90, 90}, pointsOf(20, 0, 40, 20, 60, 40, 80, 60)
	for n := 1; n <= impl.MaxLinks; n++ {
		a := evenArm(-180, 180, slices.Repeat([]int{40}, n)...)
		for k, middle := range middles {
			for beside := range 10 {
				touching := diamondAt(middle.X, middle.Y+beside)
				if k%2 == 1 {
					touching = diamondAt(middle.X+beside, middle.Y)
				}
				want := k >= n || beside > 5
				for size := 1; size <= mostObstacles; size++ {
					for place := range size {
						scene := withObstacle(farScene()[:size], place, touching)
						if got := impl.ArmClear(a, joints[:n], scene); got != want {
							t.Errorf("%d links with %v at place %d of %d obstacles are clear: %v", n, touching, place, size, got)
						}
					}
				}
			}
		}
	}
}

// Promise 58. Beyond both ends of a link only the line through it meets.
func TestObstaclesOnTheLineThroughALink(t *testing.T) {
	for _, length := range []int{1, 2, 40, 500} {
		for quarter, way := range pointsOf(1, 0, 0, 1, -1, 0, 0, -1) {
			for _, turns := range []int{quarter*90 - 360, quarter * 90} {
				if turns < -180 || turns > 180 {
					continue
				}
				for at := -20; at <= length+20; at++ {
					scene := [][]impl.Point{diamondAt(at*way.X, at*way.Y)}
					want := at < -5 || at > length+5
					if got := impl.ArmClear(evenArm(-180, 180, length), []int{turns}, scene); got != want {
						t.Errorf("a link of length %d at %d degrees is clear of %v: %v", length, turns, scene, got)
					}
				}
			}
		}
	}
}

// Promise 58, for arms with every number of links, in contact and not.
func TestArmsAmongObstacles(t *testing.T) {
	clear, contact := 0, 0
	for _, a := range validArms() {
		for _, joints := range sampleJoints(a) {
			for _, scene := range sampleScenes() {
				got := impl.ArmClear(a, joints, scene)
				if got != wantedClear(a, joints, scene) {
					t.Errorf("ArmClear(%v, %v, %v) is %v", a, joints, scene, got)
				}
				if got {
					clear++
				} else {
					contact++
				}
			}
		}
	}
	if clear < 1000 || contact < 1000 {
		t.Errorf("only %d arms are clear, and %d are not", clear, contact)
	}
}

// Promise 58. One link in all directions, beside one obstacle after the other.
func TestOneLinkInAllDirections(t *testing.T) {
	for _, length := range []int{1, 7, 100, 499, 500} {
		a := evenArm(-180, 180, length)
		for angle := -180; angle <= 180; angle++ {
			for _, scene := range sampleScenes() {
				for _, list := range scene {
					if got := impl.ArmClear(a, []int{angle}, [][]impl.Point{list}); got != wantedClear(a, []int{angle}, [][]impl.Point{list}) {
						t.Errorf("a link of length %d at %d degrees is clear of %v: %v", length, angle, list, got)
					}
				}
			}
		}
	}
}

// Promise 58.
func TestMoreObstaclesLeaveLessRoom(t *testing.T) {
	for _, a := range validArms() {
		for _, joints := range someJoints(a) {
			for _, scene := range sampleScenes() {
				clear := impl.ArmClear(a, joints, scene)
				eachPart(scene, func(part [][]impl.Point) {
					got := impl.ArmClear(a, joints, part)
					if got != wantedClear(a, joints, part) || clear && !got {
						t.Errorf("ArmClear(%v, %v, %v) is %v, and for %v it is %v", a, joints, part, got, scene, clear)
					}
				})
			}
			for _, none := range [][][]impl.Point{nil, {}, make([][]impl.Point, 0, 9), sameObstacles(squareAt(-5, -5), 3)[:0]} {
				if !impl.ArmClear(a, joints, none) {
					t.Errorf("%v at %v is not clear without obstacles", a, joints)
				}
			}
		}
	}
}

// Promise 58. The base can be inside, on an edge or at a corner.
func TestNoArmIsClearOfAnObstacleWithTheBase(t *testing.T) {
	around := [][]impl.Point{
		squareAt(-5, -5), squareAt(-1, -1), squareAt(0, -5), squareAt(-10, -5), squareAt(-5, 0), squareAt(-5, -10),
		squareAt(0, 0), squareAt(-10, 0), squareAt(0, -10), squareAt(-10, -10), diamondAt(0, 0), diamondAt(3, 2), diamondAt(-5, 0),
		roundCorners[:mostCorners], placed(roundCorners[:mostCorners], 1000, point(-2000, -2000)), largePolygons()[0],
	}
	for _, a := range validArms() {
		for _, joints := range someJoints(a) {
			for _, list := range around {
				for n := 1; n <= mostObstacles; n++ {
					for k := range n {
						if impl.ArmClear(a, joints, withObstacle(farScene()[:n], k, list)) {
							t.Errorf("%v at %v is clear of %v, obstacle %d of %d", a, joints, list, k, n)
						}
					}
				}
			}
		}
	}
}

// someScenes are scenes which no arm meets, and one which every arm meets.
func someScenes() [][][]impl.Point {
	return [][][]impl.Point{nil, {}, farScene()[:1], farScene(), {squareAt(-5, -5)}}
}

// Promise 58, for invalid arms and angles, with and without obstacles.
func TestInvalidArmsAreNotClear(t *testing.T) {
	check := func(a impl.Arm, joints []int) {
		for _, scene := range someScenes() {
			if impl.ArmClear(a, joints, scene) {
				t.Errorf("ArmClear(%v, %v, %v) is true", a, joints, scene)
			}
		}
	}
	for _, a := range validArms() {
		for _, joints := range wrongOrBeyond(a) {
			check(a, joints)
		}
	}
	for _, a := range invalidArms() {
		for _, joints := range anyJoints(a) {
			check(a, joints)
		}
	}
}

// Promises 57 and 58. Nothing is clear of an invalid scene.
func TestNoArmIsClearOfAnInvalidScene(t *testing.T) {
	for _, scene := range invalidScenes() {
		if impl.SceneValid(scene) {
			t.Errorf("a scene of %d obstacles with an invalid one is valid", len(scene))
		}
		for _, a := range []impl.Arm{evenArm(-180, 180, 1), evenArm(-90, 90, 100, 50), evenArm(-180, 180, 500, 500, 500, 500)} {
			for _, joints := range [][]int{a.Low, a.High, make([]int, len(a.Links)), nil} {
				if impl.ArmClear(a, joints, scene) {
					t.Errorf("%v at %v is clear of an invalid scene of %d obstacles", a, joints, len(scene))
				}
			}
		}
	}
}
