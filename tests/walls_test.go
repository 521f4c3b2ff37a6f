package tests

import (
	"testing"

	"loop.example/robotcell/impl"
)

const stiffest = 100

// wallRanges are the least and the greatest valid arguments of ContactForce.
var wallRanges = [][2]int{{-greatest, greatest}, {-greatest, greatest}, {1, stiffest}}

// wallsAround are walls at the ends of their range and inside it.
var wallsAround = []int{-greatest, -greatest + 1, -1234, -1, 0, 1, 77, greatest - fastest, greatest - 1, greatest}

// wantedForce is also meant for places that are out of range.
func wantedForce(place int, wall int, stiff int) int {
	if place < wall {
		return 0
	}
	return (place - wall) * stiff
}

// placesNear are those before a wall, at it, behind it, and at the ends of their
// range.
func placesNear(wall int) []int {
	return bounds(-greatest, greatest, -greatest, -greatest+1, wall-1000, wall-2, wall-1, wall, wall+1, wall+2, wall+3, wall+99, wall+1000, greatest-1, greatest)
}

func TestContactForceExamples(t *testing.T) {
	for _, c := range []struct{ place, wall, stiff, want int }{
		{7, 5, 10, 20},
		// Before the wall, far from it and near it.
		{4, 5, 10, 0}, {4, 5, 1, 0}, {4, 5, 100, 0}, {-77, 5, 10, 0}, {-5, 5, 10, 0}, {-6, -5, 10, 0}, {-10000, 10000, 100, 0}, {9999, 10000, 100, 0}, {-10000, -9999, 1, 0},
		// At the wall.
		{5, 5, 10, 0}, {0, 0, 1, 0}, {-5, -5, 100, 0}, {10000, 10000, 100, 0}, {-10000, -10000, 1, 0},
		// One unit behind it.
		{6, 5, 10, 10}, {6, 5, 1, 1}, {6, 5, 100, 100}, {1, 0, 7, 7}, {0, -1, 7, 7}, {-4, -5, 99, 99}, {10000, 9999, 3, 3}, {-9999, -10000, 3, 3},
		// Deeper, on both sides of the origin.
		{105, 5, 10, 1000}, {5, -5, 2, 20}, {-5, -15, 2, 20}, {33, 0, 3, 99}, {1234, 234, 100, 100000},
		// The greatest depth, and one less.
		{10000, -10000, 100, 2000000}, {10000, -10000, 1, 20000}, {9999, -10000, 100, 1999900}, {10000, -9999, 100, 1999900}, {10000, -9999, 1, 19999},
		// A stiffness that is one below or beyond its range.
		{7, 5, 0, -1}, {7, 5, 101, -1}, {7, 5, -1, -1}, {4, 5, 0, -1}, {4, 5, 101, -1}, {5, 5, 0, -1}, {5, 5, 101, -1}, {10000, -10000, 101, -1},
		// A place or a wall that is one beyond its range.
		{10001, 5, 10, -1}, {-10001, 5, 10, -1}, {7, 10001, 10, -1}, {7, -10001, 10, -1}, {10000, 10001, 10, -1}, {10001, 10000, 10, -1}, {-10000, -10001, 10, -1}, {-10001, -10000, 10, -1},
		// Several of them together.
		{10001, 10001, 10, -1}, {10001, -10001, 10, -1}, {-10001, 10001, 10, -1}, {-10001, -10001, 1, -1}, {10001, 5, 0, -1}, {7, -10001, 101, -1}, {10001, 10001, 101, -1}, {-10001, -10001, 0, -1},
	} {
		if got := impl.ContactForce(c.place, c.wall, c.stiff); got != c.want {
			t.Errorf("ContactForce(%d, %d, %d) is %d, not %d", c.place, c.wall, c.stiff, got, c.want)
		}
	}
}

// Promise 78, for every stiffness: no wall pushes a tool that is before it or at
// it.
func TestWallsDoNotPushBeforeThem(t *testing.T) {
	for stiff := 1; stiff <= stiffest; stiff++ {
		for _, wall := range wallsAround {
			for _, place := range bounds(-greatest, wall, placesNear(wall)...) {
				if got := impl.ContactForce(place, wall, stiff); got != 0 {
					t.Errorf("ContactForce(%d, %d, %d) is %d before the wall", place, wall, stiff, got)
				}
			}
		}
	}
}

// Promise 78, for every depth: the force begins at 0 and grows by the stiffness
// with every unit.
func TestForcesGrowByTheStiffness(t *testing.T) {
	for stiff := 1; stiff <= stiffest; stiff++ {
		for _, wall := range []int{-greatest, -1, greatest - 300, greatest} {
			before := 0
			for place := wall; place <= greatest; place++ {
				got := impl.ContactForce(place, wall, stiff)
				if place > wall && got-before != stiff || place == wall && got != 0 {
					t.Fatalf("ContactForce(%d, %d, %d) is %d, after %d", place, wall, stiff, got, before)
				}
				before = got
			}
		}
	}
}

// Promise 78, for places, walls and stiffnesses that need not be near each other.
func TestContactForces(t *testing.T) {
	for stiff := 1; stiff <= stiffest; stiff++ {
		for _, wall := range wallsAround {
			for _, place := range append(placesNear(wall), wallsAround...) {
				if got, want := impl.ContactForce(place, wall, stiff), wantedForce(place, wall, stiff); got != want {
					t.Errorf("ContactForce(%d, %d, %d) is %d, not %d", place, wall, stiff, got, want)
				}
			}
		}
	}
}

// Promise 78. The force depends on the depth alone, not on where the wall is.
func TestForcesDependOnTheDepth(t *testing.T) {
	for stiff := 1; stiff <= stiffest; stiff++ {
		for _, depth := range []int{-77, -1, 0, 1, 2, 33, 500} {
			want := impl.ContactForce(depth, 0, stiff)
			for _, wall := range bounds(-greatest+77, greatest-500, wallsAround...) {
				if got := impl.ContactForce(wall+depth, wall, stiff); got != want {
					t.Errorf("ContactForce(%d, %d, %d) is %d, and %d for a wall at 0", wall+depth, wall, stiff, got, want)
				}
			}
		}
	}
}

// Promise 78, for invalid arguments, also several of them together, with the least
// and the greatest numbers. The valid ones are before the wall, at it and behind
// it.
func TestContactForceOfInvalidArguments(t *testing.T) {
	check := func(args []int) {
		if got := impl.ContactForce(args[0], args[1], args[2]); got != -1 {
			t.Errorf("ContactForce(%d, %d, %d) is %d", args[0], args[1], args[2], got)
		}
	}
	for _, valid := range [][]int{
		{4, 5, 10}, {5, 5, 10}, {7, 5, 10}, {-greatest, greatest, 1}, {greatest, -greatest, stiffest}, {greatest, greatest, stiffest}, {-greatest, -greatest, 1},
	} {
		eachSpoiled(valid, wallRanges, check)
	}
	for _, n := range append([]int{-greatest - 1, greatest + 1}, extremes...) {
		for _, other := range append([]int{-greatest - 1, greatest + 1}, extremes...) {
			check([]int{n, other, 1})
			check([]int{n, other, n})
			check([]int{n, other, other})
		}
	}
}
