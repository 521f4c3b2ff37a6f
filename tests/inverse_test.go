package tests

import (
	"math"
	"slices"
	"testing"

	"loop.example/robotcell/impl"
)

// vectorsOf are the vectors of a link in the directions 0..359.
func vectorsOf(length int) []impl.Point {
	list := make([]impl.Point, 360)
	for d := range list {
		list[d] = nearestRotation(point(length, 0), d)
	}
	return list
}

// wantedArm is a valid arm with all vectors of its links, for expected results.
type wantedArm struct {
	impl.Arm
	vectors [][]impl.Point
}

func wanted(a impl.Arm) wantedArm {
	w := wantedArm{Arm: a}
	for _, length := range a.Links {
		w.vectors = append(w.vectors, vectorsOf(length))
	}
	return w
}

// square is the square of the distance of the tip to the target.
func (w wantedArm) square(joints []int, target impl.Point) int {
	x, y, direction := -target.X, -target.Y, 0
	for k, angle := range joints {
		direction += angle
		vector := w.vectors[k][(direction%360+360)%360]
		x, y = x+vector.X, y+vector.Y
	}
	return x*x + y*y
}

func absolute(n int) int {
	if n < 0 {
		return -n
	}
	return n
}

// solve goes through the pairs backwards and compares all that the chapter
// names, so that the result does not depend on the order of the search.
func (w wantedArm) solve(target impl.Point) []int {
	best := [4]int{math.MaxInt}
	for first := w.High[0]; first >= w.Low[0]; first-- {
		for second := w.High[1]; second >= w.Low[1]; second-- {
			square := w.square([]int{first, second}, target)
			rank := [4]int{square, absolute(first) + absolute(second), first, second}
			if slices.Compare(rank[:], best[:]) < 0 {
				best = rank
			}
		}
	}
	return slices.Clone(best[2:])
}

// step goes through the candidates backwards and compares their places in the
// order of the chapter.
func (w wantedArm) step(joints []int, target impl.Point) []int {
	best, rank := joints, []int{w.square(joints, target), 0}
	for k := len(joints) - 1; k >= 0; k-- {
		for _, turn := range []int{1, -1} {
			next := slices.Clone(joints)
			next[k] += turn
			place := []int{w.square(next, target), 2*k + 2 + (turn-1)/2}
			if w.Low[k] <= next[k] && next[k] <= w.High[k] && slices.Compare(place, rank) < 0 {
				best, rank = next, place
			}
		}
	}
	return slices.Clone(best)
}

// follow takes all steps, also those that change nothing.
func (w wantedArm) follow(joints []int, target impl.Point, steps int) []int {
	list := slices.Clone(joints)
	for range steps {
		list = w.step(list, target)
	}
	return list
}

// sweepArms have two links and at most MaxSweep pairs of angles.
func sweepArms() []impl.Arm {
	return []impl.Arm{
		evenArm(0, 90, 100, 50),
		evenArm(-90, 90, 100, 50),
		evenArm(-99, 100, 80, 80),
		evenArm(-45, 60, 1, 1),
		evenArm(-90, -30, 2, 3),
		evenArm(33, 33, 250, 249),
		evenArm(-180, -180, 1, 500),
		evenArm(180, 180, 500, 1),
		arm([]int{500, 500}, []int{-180, 0}, []int{180, 109}),
		arm([]int{1, 500}, []int{-180, -50}, []int{180, 50}),
		arm([]int{300, 100}, []int{-10, -180}, []int{10, 180}),
		arm([]int{100, 300}, []int{170, -180}, []int{180, 180}),
		arm([]int{60, 60}, []int{-10, -180}, []int{20, 180}),
		arm([]int{50, 60}, []int{-180, 7}, []int{180, 7}),
		arm([]int{50, 60}, []int{-7, -180}, []int{-7, 180}),
		arm([]int{120, 77}, []int{20, -150}, []int{21, -100}),
	}
}

// targetsFor are points within the reach of an arm and at its bounds, points
// nearer to the base and farther from it, and the corners of the plane.
func targetsFor(a impl.Arm) []impl.Point {
	sum, least := impl.ReachOf(a)
	list := []impl.Point{{}, point(1, 0), point(0, -1), point(-3, 2)}
	for _, c := range []int{least / 2, least, (sum + least) / 2, sum, sum + 1, 2 * sum, greatest} {
		list = append(list, point(c, 0), point(-c, 0), point(0, c), point(0, -c))
		list = append(list, point(c, c), point(-c, c), point(c, -c), point(-c, -c))
		list = append(list, point(c*3/5, c*4/5), point(-c*12/13, c*5/13), point(c*7/25, -c*24/25))
	}
	return list
}

// fewTargets are a part of the targets, for tests that need much time for each.
func fewTargets(a impl.Arm) []impl.Point {
	var list []impl.Point
	for k, target := range targetsFor(a) {
		if k%4 == 0 {
			list = append(list, target)
		}
	}
	return list
}

func squareToTip(a impl.Arm, joints []int, target impl.Point) int {
	return impl.SquaredDistance(impl.TipOf(a, joints), target)
}

func distanceToTip(a impl.Arm, joints []int, target impl.Point) float64 {
	return math.Sqrt(float64(squareToTip(a, joints, target)))
}

func TestMaxSweep(t *testing.T) {
	if impl.MaxSweep != 40000 {
		t.Fatalf("MaxSweep is %d", impl.MaxSweep)
	}
}

func TestSolveArmExamples(t *testing.T) {
	quarter := evenArm(0, 90, 100, 50)
	for _, c := range []struct {
		arm    impl.Arm
		target impl.Point
		want   []int
	}{
		{quarter, point(100, 50), []int{0, 90}},
		{quarter, point(150, 0), []int{0, 0}},
		{quarter, point(0, 150), []int{90, 0}},
		{quarter, point(-50, 100), []int{90, 90}},
		// Beyond the sum of the lengths.
		{quarter, point(900, 0), []int{0, 0}},
		{quarter, point(0, 900), []int{90, 0}},
		// With 46 degrees the second link ends at (106, 107) after rounding, with 45 at (106, 106).
		{quarter, point(greatest, greatest), []int{45, 1}},
		// Within the reach, but not with these ranges.
		{quarter, point(0, -120), []int{0, 0}},
		{quarter, point(-50, 0), []int{90, 90}},
		// Nearer to the base than the inner bound.
		{arm([]int{300, 100}, []int{0, -180}, []int{0, 179}), point(50, 0), []int{0, -180}},
		{arm([]int{300, 100}, []int{0, -179}, []int{0, 180}), point(50, 0), []int{0, 180}},
		// Ranges of one angle alone: there is nothing else.
		{evenArm(33, 33, 250, 249), point(-7, 8), []int{33, 33}},
		{evenArm(-180, -180, 1, 500), point(greatest, -greatest), []int{-180, -180}},
		{arm([]int{100, 200}, []int{0, 90}, []int{180, 90}), point(-200, 100), []int{90, 90}},
		{arm([]int{100, 200}, []int{90, 0}, []int{90, 180}), point(-200, 100), []int{90, 90}},
	} {
		if got := impl.SolveArm(c.arm, c.target); !slices.Equal(got, c.want) {
			t.Errorf("SolveArm(%v, %v) is %v, not %v", c.arm, c.target, got, c.want)
		}
	}
}

// All pairs of an example below have the same least distance.
func TestSolveArmTellsEqualDistancesApart(t *testing.T) {
	for _, c := range []struct {
		arm    impl.Arm
		target impl.Point
		equals [][]int
		want   []int
	}{
		// The least sum of absolute values, although another first angle is less.
		{
			arm([]int{80, 80}, []int{-10, 180}, []int{10, 180}), point(0, 0),
			[][]int{{-10, 180}, {-1, 180}, {0, 180}, {1, 180}, {10, 180}}, []int{0, 180},
		},
		{
			arm([]int{80, 80}, []int{5, -180}, []int{10, 180}), point(0, 0),
			[][]int{{5, -180}, {5, 180}, {6, -180}, {10, 180}}, []int{5, -180},
		},
		{
			arm([]int{80, 80}, []int{-10, -180}, []int{-5, 180}), point(0, 0),
			[][]int{{-10, -180}, {-6, 180}, {-5, -180}, {-5, 180}}, []int{-5, -180},
		},
		// The least first angle, although the other second angle is less.
		{
			arm([]int{100, 100}, []int{-60, -120}, []int{60, 120}), point(100, 0),
			[][]int{{-60, 120}, {60, -120}}, []int{-60, 120},
		},
		{
			arm([]int{100, 200}, []int{-180, 0}, []int{180, 0}), point(-300, 0),
			[][]int{{-180, 0}, {180, 0}}, []int{-180, 0},
		},
		// The least second angle.
		{
			arm([]int{80, 80}, []int{-10, -180}, []int{10, 180}), point(0, 0),
			[][]int{{0, -180}, {0, 180}, {-10, -180}, {10, 180}}, []int{0, -180},
		},
		{
			arm([]int{100, 200}, []int{0, -180}, []int{0, 180}), point(-100, 0),
			[][]int{{0, -180}, {0, 180}}, []int{0, -180},
		},
	} {
		for _, joints := range c.equals {
			if got := squareToTip(c.arm, joints, c.target); got != squareToTip(c.arm, c.want, c.target) {
				t.Errorf("%v and %v are not equally near to %v: %d", joints, c.want, c.target, got)
			}
		}
		if got := impl.SolveArm(c.arm, c.target); !slices.Equal(got, c.want) {
			t.Errorf("SolveArm(%v, %v) is %v, not %v", c.arm, c.target, got, c.want)
		}
	}
}

// Promise 1. The expected result is the best of all pairs.
func TestTheSolutionIsTheBestOne(t *testing.T) {
	for _, a := range sweepArms() {
		w := wanted(a)
		for _, target := range targetsFor(a) {
			got, want := impl.SolveArm(a, target), w.solve(target)
			if !slices.Equal(got, want) || !impl.JointsValid(a, got) {
				t.Errorf("SolveArm(%v, %v) is %v, not %v", a, target, got, want)
			}
		}
	}
}

// Promise 1. With links this short many pairs have the same tip.
func TestShortLinksHaveManySolutions(t *testing.T) {
	for first := 1; first <= 3; first++ {
		for second := 1; second <= 3; second++ {
			a := evenArm(-40, 50, first, second)
			w := wanted(a)
			for x := -4; x <= 7; x++ {
				for y := -6; y <= 6; y += 2 {
					got, want := impl.SolveArm(a, point(x, y)), w.solve(point(x, y))
					if !slices.Equal(got, want) {
						t.Errorf("SolveArm(%v, (%d, %d)) is %v, not %v", a, x, y, got, want)
					}
				}
			}
		}
	}
}

// Promise 1.
func TestTipsAreReachedExactly(t *testing.T) {
	for _, a := range sweepArms() {
		for _, joints := range sampleJoints(a) {
			tip := impl.TipOf(a, joints)
			got := impl.SolveArm(a, tip)
			if !impl.JointsValid(a, got) || impl.TipOf(a, got) != tip {
				t.Errorf("SolveArm(%v, %v) is %v, which is not there", a, tip, got)
			}
			if sumOfAbsolutes(got) > sumOfAbsolutes(joints) {
				t.Errorf("SolveArm(%v, %v) is %v, although %v is there too", a, tip, got, joints)
			}
		}
	}
}

func sumOfAbsolutes(list []int) int {
	sum := 0
	for _, n := range list {
		sum += absolute(n)
	}
	return sum
}

func TestSolveArmSweepsAtMostMaxSweepPairs(t *testing.T) {
	for _, c := range []struct {
		first, second int
		solved        bool
	}{
		{1, 1, true}, {1, 361, true}, {361, 1, true}, {361, 110, true}, {110, 361, true},
		{200, 200, true}, {125, 320, true}, {320, 125, true}, {160, 250, true}, {250, 160, true},
		{199, 201, true}, {201, 199, true},
		// 181 * 221 is 40001.
		{181, 221, false}, {221, 181, false},
		{200, 201, false}, {201, 200, false}, {126, 320, false}, {320, 126, false},
		{125, 321, false}, {160, 251, false}, {361, 111, false}, {111, 361, false}, {361, 361, false},
	} {
		for _, low := range []int{-180, 181 - max(c.first, c.second)} {
			a := arm([]int{40, 30}, []int{low, low}, []int{low + c.first - 1, low + c.second - 1})
			got := impl.SolveArm(a, point(-20, 50))
			if !impl.ArmValid(a) || (len(got) != 0) != c.solved {
				t.Errorf("SolveArm(%v) with %d pairs is %v", a, c.first*c.second, got)
			}
			if c.solved && !slices.Equal(got, wanted(a).solve(point(-20, 50))) {
				t.Errorf("SolveArm(%v) is %v", a, got)
			}
		}
	}
}

// Promise 1, for invalid arguments.
func TestSolveArmOfInvalidArguments(t *testing.T) {
	check := func(a impl.Arm, target impl.Point) {
		if got := impl.SolveArm(a, target); len(got) != 0 {
			t.Errorf("SolveArm(%v, %v) is %v", a, target, got)
		}
	}
	for _, a := range sweepArms() {
		for _, target := range invalidPoints() {
			check(a, target)
		}
	}
	for _, a := range validArms() {
		if len(a.Links) != 2 {
			check(a, point(1, 1))
			check(a, impl.TipOf(a, a.Low))
		}
	}
	for _, links := range [][]int{{9}, {9, 9, 9}, {9, 9, 9, 9}} {
		check(evenArm(0, 0, links...), point(9, 0))
		check(evenArm(-3, 3, links...), point(9, 0))
	}
	for _, a := range invalidArms() {
		check(a, point(0, 0))
		check(a, point(greatest, -greatest))
		check(a, point(greatest+1, 0))
	}
}

// Promise 118.
func TestPointsOutOfReachAreApproached(t *testing.T) {
	for _, a := range sweepArms() {
		sum, _ := impl.ReachOf(a)
		for _, target := range targetsFor(a) {
			joints := impl.SolveArm(a, target)
			if !impl.JointsValid(a, joints) {
				t.Errorf("SolveArm(%v, %v) is %v", a, target, joints)
				continue
			}
			difference := distanceFromOrigin(target) - float64(sum)
			if got := distanceToTip(a, joints, target); got < difference-2 {
				t.Errorf("SolveArm(%v, %v) is %v, nearer than %f: %f", a, target, joints, difference, got)
			}
		}
	}
}

// besideBy is the distance of two points at the distances a and b from the
// origin whose directions differ by half a degree.
func besideBy(a float64, b float64) float64 {
	return math.Sqrt(a*a + b*b - 2*a*b*math.Cos(math.Pi/360))
}

// Promise 118. An arm that can turn around and stretch gets as near to a point
// beyond its reach as whole degrees allow.
func TestArmsStretchTowardsPointsBeyondTheirReach(t *testing.T) {
	for _, links := range [][]int{{100, 50}, {1, 1}, {500, 500}, {1, 500}, {330, 7}} {
		a := arm(links, []int{-180, -3}, []int{180, 3})
		sum, _ := impl.ReachOf(a)
		for d := 0; d < 360; d += 13 {
			for _, distance := range []int{sum + 3, sum + 50, 2 * sum, 9999} {
				target := nearestRotation(point(distance, 0), d)
				far := distanceFromOrigin(target)
				got := distanceToTip(a, impl.SolveArm(a, target), target)
				if got < far-float64(sum)-2 || got > besideBy(far, float64(sum))+2 {
					t.Errorf("SolveArm(%v, %v) has its tip at the distance %f", a, target, got)
				}
			}
		}
	}
}

// Promise 118, for the inner bound: an arm that can turn around and fold gets
// as near as whole degrees allow.
func TestArmsFoldTowardsPointsWithinTheirReach(t *testing.T) {
	for _, links := range [][]int{{300, 100}, {100, 300}, {500, 1}, {1, 500}, {60, 20}} {
		a := arm(links, []int{-180, 175}, []int{180, 180})
		_, least := impl.ReachOf(a)
		for d := 0; d < 360; d += 13 {
			for _, distance := range []int{0, 1, least / 4, least / 2, least - 3} {
				target := nearestRotation(point(distance, 0), d)
				near := distanceFromOrigin(target)
				got := distanceToTip(a, impl.SolveArm(a, target), target)
				if got < float64(least)-near-2 || got > besideBy(near, float64(least))+2 {
					t.Errorf("SolveArm(%v, %v) has its tip at the distance %f", a, target, got)
				}
			}
		}
	}
}

func TestStepJointsExamples(t *testing.T) {
	quarter := evenArm(0, 90, 100, 50)
	for _, c := range []struct {
		arm    impl.Arm
		joints []int
		target impl.Point
		want   []int
	}{
		{quarter, []int{0, 89}, point(100, 50), []int{0, 90}},
		{quarter, []int{0, 90}, point(100, 50), []int{0, 90}},
		{quarter, []int{1, 90}, point(100, 50), []int{0, 90}},
		// The joint that helps most turns, and no joint turns beyond its range.
		{evenArm(-180, 180, 500, 500), []int{0, 0}, point(0, 500), []int{1, 0}},
		{evenArm(-180, 180, 500, 500), []int{0, 0}, point(0, -500), []int{-1, 0}},
		{evenArm(0, 90, 500, 500), []int{0, 0}, point(0, -500), []int{0, 0}},
		{arm([]int{500, 500}, []int{0, -90}, []int{90, 90}), []int{0, 0}, point(0, -500), []int{0, -1}},
		{evenArm(-90, 0, 500, 500), []int{0, 0}, point(0, 500), []int{0, 0}},
		{arm([]int{500, 500}, []int{-90, -90}, []int{0, 90}), []int{0, 0}, point(0, 500), []int{0, 1}},
		// 180 and -180 degrees are the same direction, but no step leads from one to the other.
		{evenArm(-180, 180, 500), []int{180}, point(-400, -90), []int{180}},
		{evenArm(-180, 180, 500), []int{-180}, point(-400, 90), []int{-180}},
		{evenArm(-180, 180, 500), []int{180}, point(-400, 90), []int{179}},
		{evenArm(-180, 180, 500), []int{-180}, point(-400, -90), []int{-179}},
		// Ranges of one angle alone.
		{evenArm(33, 33, 250, 249, 1), []int{33, 33, 33}, point(-7, 8), []int{33, 33, 33}},
	} {
		if got := impl.StepJoints(c.arm, c.joints, c.target); !slices.Equal(got, c.want) {
			t.Errorf("StepJoints(%v, %v, %v) is %v, not %v", c.arm, c.joints, c.target, got, c.want)
		}
	}
}

func TestStepJointsTellsEqualDistancesApart(t *testing.T) {
	// Turning a link of the length 1 by one degree from 0 does not move its
	// end, so that both joints do the same.
	limited := func(low0 int, high0 int, low1 int, high1 int) impl.Arm {
		return arm([]int{1, 500}, []int{low0, low1}, []int{high0, high1})
	}
	for _, c := range []struct {
		arm    impl.Arm
		joints []int
		target impl.Point
		want   []int
	}{
		// The current angles first.
		{evenArm(-180, 180, 1), []int{0}, point(0, 100), []int{0}},
		{evenArm(-180, 180, 1, 1, 1, 1), []int{0, 0, 0, 0}, point(0, 100), []int{0, 0, 0, 0}},
		// -1 before 1: the point is opposite to the link.
		{evenArm(-180, 180, 500), []int{45}, point(-1000, -1000), []int{44}},
		{evenArm(45, 180, 500), []int{45}, point(-1000, -1000), []int{46}},
		{evenArm(45, 45, 500), []int{45}, point(-1000, -1000), []int{45}},
		// The first joint before the second one.
		{limited(-180, 180, -180, 180), []int{0, 0}, point(500, 500), []int{1, 0}},
		{limited(-180, 180, -180, 180), []int{0, 0}, point(500, -500), []int{-1, 0}},
		{limited(-180, 0, -180, 180), []int{0, 0}, point(500, 500), []int{0, 1}},
		{limited(0, 180, -180, 180), []int{0, 0}, point(500, -500), []int{0, -1}},
		// Four equal ones: the joints count before the directions.
		{limited(-180, 180, -180, 180), []int{0, 45}, point(-999, -1000), []int{-1, 45}},
		{limited(0, 180, -180, 180), []int{0, 45}, point(-999, -1000), []int{1, 45}},
		{limited(0, 0, -180, 180), []int{0, 45}, point(-999, -1000), []int{0, 44}},
		{limited(0, 0, 45, 180), []int{0, 45}, point(-999, -1000), []int{0, 46}},
		{limited(0, 0, 45, 45), []int{0, 45}, point(-999, -1000), []int{0, 45}},
	} {
		if got := impl.StepJoints(c.arm, c.joints, c.target); !slices.Equal(got, c.want) {
			t.Errorf("StepJoints(%v, %v, %v) is %v, not %v", c.arm, c.joints, c.target, got, c.want)
		}
	}
}

func checkStep(t *testing.T, w wantedArm, joints []int, target impl.Point) {
	got := impl.StepJoints(w.Arm, joints, target)
	if want := w.step(joints, target); !slices.Equal(got, want) {
		t.Errorf("StepJoints(%v, %v, %v) is %v, not %v", w.Arm, joints, target, got, want)
		return
	}
	turned := 0
	for k := range got {
		turned += absolute(got[k] - joints[k])
	}
	if turned > 1 || !impl.JointsValid(w.Arm, got) {
		t.Errorf("StepJoints(%v, %v, %v) is %v", w.Arm, joints, target, got)
	}
	before, after := squareToTip(w.Arm, joints, target), squareToTip(w.Arm, got, target)
	if after > before || after == before && turned != 0 {
		t.Errorf("StepJoints(%v, %v, %v) is %v, which is not nearer", w.Arm, joints, target, got)
	}
}

// Promise 35. The sample angles contain the least and the greatest ones.
func TestStepsNeverLeadAway(t *testing.T) {
	for _, a := range append(validArms(), sweepArms()...) {
		w := wanted(a)
		for _, joints := range sampleJoints(a) {
			for _, target := range fewTargets(a) {
				checkStep(t, w, joints, target)
			}
			checkStep(t, w, joints, impl.TipOf(a, joints))
		}
	}
}

// Promise 35, for every angle of one link.
func TestStepsOfOneLink(t *testing.T) {
	for _, length := range []int{1, 2, 40, 500} {
		w := wanted(evenArm(-180, 180, length))
		for angle := -180; angle <= 180; angle++ {
			for _, target := range targetsFor(w.Arm) {
				checkStep(t, w, []int{angle}, target)
			}
		}
	}
}

// wrongOrBeyond are joint angles that are not valid for a valid arm.
func wrongOrBeyond(a impl.Arm) [][]int {
	return append(wrongJoints(a), beyondJoints(a)...)
}

// eachInvalid calls a function with arguments of StepJoints at least one of
// which is invalid.
func eachInvalid(call func(a impl.Arm, joints []int, target impl.Point)) {
	for _, a := range validArms() {
		for _, joints := range wrongOrBeyond(a) {
			call(a, joints, point(3, -4))
			call(a, joints, point(greatest, greatest))
			call(a, joints, point(0, greatest+1))
		}
		for _, target := range invalidPoints() {
			call(a, a.Low, target)
			call(a, a.High, target)
		}
	}
	for _, a := range invalidArms() {
		for _, joints := range anyJoints(a) {
			call(a, joints, point(0, 0))
			call(a, joints, point(-greatest-1, 0))
		}
	}
}

// Promise 35, for invalid arguments.
func TestStepJointsOfInvalidArguments(t *testing.T) {
	eachInvalid(func(a impl.Arm, joints []int, target impl.Point) {
		if got := impl.StepJoints(a, joints, target); len(got) != 0 {
			t.Errorf("StepJoints(%v, %v, %v) is %v", a, joints, target, got)
		}
	})
}

func TestFollowPointExamples(t *testing.T) {
	quarter := evenArm(0, 90, 100, 50)
	turning := evenArm(-180, 180, 500)
	for _, c := range []struct {
		arm    impl.Arm
		joints []int
		target impl.Point
		steps  int
		want   []int
	}{
		{quarter, []int{0, 80}, point(100, 50), 0, []int{0, 80}},
		{quarter, []int{0, 89}, point(100, 50), 1, []int{0, 90}},
		{quarter, []int{0, 89}, point(100, 50), 500, []int{0, 90}},
		{quarter, []int{0, 90}, point(100, 50), 500, []int{0, 90}},
		{turning, []int{0}, point(0, 500), 0, []int{0}},
		{turning, []int{0}, point(0, 500), 1, []int{1}},
		{turning, []int{0}, point(0, 500), 2, []int{2}},
		{turning, []int{0}, point(0, 500), 89, []int{89}},
		{turning, []int{0}, point(0, 500), 90, []int{90}},
		{turning, []int{0}, point(0, 500), 91, []int{90}},
		{turning, []int{0}, point(0, 500), 500, []int{90}},
		{turning, []int{0}, point(0, -500), 500, []int{-90}},
		{evenArm(-180, 70, 500), []int{0}, point(0, 500), 500, []int{70}},
		{evenArm(-70, 180, 500), []int{0}, point(0, -500), 500, []int{-70}},
		// No step improves these: the point is opposite, or beyond the range.
		{turning, []int{0}, point(-1000, 0), 500, []int{0}},
		{turning, []int{180}, point(-400, -90), 500, []int{180}},
		{evenArm(33, 33, 250, 249), []int{33, 33}, point(-7, 8), 500, []int{33, 33}},
		{turning, []int{0}, point(0, 500), -1, nil},
		{turning, []int{0}, point(0, 500), 501, nil},
		{turning, []int{0}, point(0, 500), math.MinInt, nil},
		{turning, []int{0}, point(0, 500), math.MaxInt, nil},
	} {
		got := impl.FollowPoint(c.arm, c.joints, c.target, c.steps)
		if !slices.Equal(got, c.want) {
			t.Errorf("FollowPoint(%v, %v, %v, %d) is %v, not %v", c.arm, c.joints, c.target, c.steps, got, c.want)
		}
	}
}

// someJoints are few of the sample angles of an arm, with the first and the last.
func someJoints(a impl.Arm) [][]int {
	rows := sampleJoints(a)
	list := [][]int{rows[0], rows[len(rows)-1]}
	for k := 1; k < 6; k++ {
		list = append(list, rows[len(rows)*k/6])
	}
	return list
}

// Promise 36.
func TestFollowingRepeatsSteps(t *testing.T) {
	for _, a := range append(validArms(), sweepArms()...) {
		w := wanted(a)
		for _, joints := range someJoints(a) {
			for _, target := range fewTargets(a)[:8] {
				want, taken := joints, 0
				for _, steps := range []int{0, 1, 2, 7, 100, 499, 500} {
					want, taken = w.follow(want, target, steps-taken), steps
					if got := impl.FollowPoint(a, joints, target, steps); !slices.Equal(got, want) {
						t.Errorf("FollowPoint(%v, %v, %v, %d) is %v, not %v", a, joints, target, steps, got, want)
					}
				}
				if got := impl.FollowPoint(a, joints, target, 1); !slices.Equal(got, impl.StepJoints(a, joints, target)) {
					t.Errorf("FollowPoint(%v, %v, %v, 1) is %v, not StepJoints", a, joints, target, got)
				}
			}
		}
	}
}

// Promise 36. Here every one of 500 steps helps, and more steps would.
func TestAllStepsAreTaken(t *testing.T) {
	for _, c := range []struct {
		links, joints []int
		target        impl.Point
	}{
		{[]int{300, 400, 300}, []int{180, 90, -135}, point(900, 600)},
		{[]int{300, 300, 10, 300}, []int{-135, 90, 0, 180}, point(800, 700)},
		{[]int{300, 50, 100, 500}, []int{-180, -90, 45, 45}, point(900, -300)},
	} {
		a := evenArm(-180, 180, c.links...)
		w, want := wanted(a), c.joints
		for steps := 1; steps <= 500; steps++ {
			before := want
			want = w.step(before, c.target)
			got := impl.FollowPoint(a, c.joints, c.target, steps)
			if slices.Equal(want, before) || !slices.Equal(got, want) {
				t.Fatalf("FollowPoint(%v, %v, %v, %d) is %v, not %v", a, c.joints, c.target, steps, got, want)
			}
		}
		if got := impl.StepJoints(a, want, c.target); slices.Equal(got, want) {
			t.Errorf("no step helps %v at %v, after 500 steps", a, want)
		}
	}
}

// Promise 36.
func TestFollowingInTwoParts(t *testing.T) {
	parts := [][2]int{{0, 0}, {0, 500}, {500, 0}, {1, 1}, {3, 50}, {50, 3}, {250, 250}, {499, 1}, {1, 499}}
	for _, a := range append(validArms(), sweepArms()...) {
		for _, joints := range someJoints(a) {
			for _, target := range fewTargets(a) {
				for _, part := range parts {
					first := impl.FollowPoint(a, joints, target, part[0])
					got := impl.FollowPoint(a, first, target, part[1])
					want := impl.FollowPoint(a, joints, target, part[0]+part[1])
					if len(got) == 0 || !slices.Equal(got, want) {
						t.Errorf("following with %v, %v, %v in the parts %v is %v, not %v", a, joints, target, part, got, want)
					}
				}
			}
		}
	}
}

// followToTheEnd repeats FollowPoint, since an arm may need more than 500 steps.
func followToTheEnd(a impl.Arm, joints []int, target impl.Point) []int {
	for range 100 {
		next := impl.FollowPoint(a, joints, target, 500)
		if slices.Equal(next, joints) {
			break
		}
		joints = next
	}
	return joints
}

// Promise 36.
func TestFollowingEndsWhereNoStepHelps(t *testing.T) {
	for _, a := range append(validArms(), sweepArms()...) {
		for _, joints := range someJoints(a) {
			for _, target := range targetsFor(a) {
				end := followToTheEnd(a, joints, target)
				if got := impl.StepJoints(a, end, target); len(got) == 0 || !slices.Equal(got, end) {
					t.Errorf("StepJoints(%v, %v, %v) is %v at the end", a, end, target, got)
				}
				for _, steps := range []int{0, 1, 500} {
					if got := impl.FollowPoint(a, end, target, steps); !slices.Equal(got, end) {
						t.Errorf("FollowPoint(%v, %v, %v, %d) is %v at the end", a, end, target, steps, got)
					}
				}
			}
		}
	}
}

// Promise 36. No angles occur twice, so that 500 steps are enough for at most
// 501 of them.
func TestEnoughStepsForFewAngles(t *testing.T) {
	for _, a := range []impl.Arm{
		evenArm(-180, 180, 500), evenArm(-180, 180, 3), evenArm(-11, 10, 100, 90),
		evenArm(40, 46, 80, 70, 60), evenArm(-2, 1, 500, 400, 300, 200),
	} {
		for _, joints := range sampleJoints(a) {
			for _, target := range fewTargets(a) {
				end := impl.FollowPoint(a, joints, target, 500)
				if got := impl.StepJoints(a, end, target); len(got) == 0 || !slices.Equal(got, end) {
					t.Errorf("StepJoints(%v, %v, %v) is %v at the end", a, end, target, got)
				}
			}
		}
	}
}

// Promise 36, for invalid arguments.
func TestFollowPointOfInvalidArguments(t *testing.T) {
	check := func(a impl.Arm, joints []int, target impl.Point, steps int) {
		if got := impl.FollowPoint(a, joints, target, steps); len(got) != 0 {
			t.Errorf("FollowPoint(%v, %v, %v, %d) is %v", a, joints, target, steps, got)
		}
	}
	eachInvalid(func(a impl.Arm, joints []int, target impl.Point) {
		for _, steps := range []int{0, 1, 500, 501} {
			check(a, joints, target, steps)
		}
	})
	for _, a := range validArms() {
		for _, steps := range append([]int{-500, -1, 501, 1000}, extremes...) {
			check(a, a.Low, point(1, 2), steps)
			check(a, a.High, impl.TipOf(a, a.High), steps)
		}
	}
}

// Promise 119.
func TestFollowingIsNotBetterThanSolving(t *testing.T) {
	for _, a := range sweepArms() {
		for _, target := range fewTargets(a) {
			solved := impl.SolveArm(a, target)
			if !impl.JointsValid(a, solved) {
				t.Errorf("SolveArm(%v, %v) is %v", a, target, solved)
				continue
			}
			best := squareToTip(a, solved, target)
			for _, joints := range sampleJoints(a) {
				for _, steps := range []int{0, 1, 500} {
					followed := impl.FollowPoint(a, joints, target, steps)
					if got := squareToTip(a, followed, target); len(followed) == 0 || got < best {
						t.Errorf("FollowPoint(%v, %v, %v, %d) is %v, with %d; SolveArm is %v, with %d", a, joints, target, steps, followed, got, solved, best)
					}
				}
			}
			if got := impl.FollowPoint(a, solved, target, 500); !slices.Equal(got, solved) {
				t.Errorf("FollowPoint(%v, %v, %v, 500) is %v, although it began at the solution", a, solved, target, got)
			}
		}
	}
}

// searches are the results of all functions of the chapter that return lists.
func searches(a impl.Arm, joints []int, target impl.Point) [][]int {
	return [][]int{
		impl.SolveArm(a, target), impl.StepJoints(a, joints, target),
		impl.FollowPoint(a, joints, target, 0), impl.FollowPoint(a, joints, target, 1), impl.FollowPoint(a, joints, target, 20),
	}
}

func fill[T any](list []T, value T) {
	for k := range list {
		list[k] = value
	}
}

// checkSearchMemory overwrites one set of results, and then the arguments.
// Nothing else may be affected.
func checkSearchMemory(t *testing.T, a impl.Arm, joints []int, target impl.Point) {
	b, angles := arm(roomy(a.Links), roomy(a.Low), roomy(a.High)), roomy(joints)
	armBefore, anglesBefore := copyArm(wholeArm(b)), slices.Clone(whole(angles))
	unchanged := func() bool {
		return equalArms(wholeArm(b), armBefore) && slices.Equal(whole(angles), anglesBefore)
	}
	results, kept := searches(b, angles, target), searches(b, angles, target)
	if !unchanged() {
		t.Errorf("the arm %v or the angles %v are changed", a, joints)
	}
	var want [][]int
	for _, list := range kept {
		want = append(want, slices.Clone(list))
	}
	for k, list := range results {
		fill(whole(list), 777+k)
	}
	if !unchanged() {
		t.Errorf("a result for %v, %v and %v shares memory with an argument", a, joints, target)
	}
	for k, list := range results {
		if slices.ContainsFunc(whole(list), func(n int) bool { return n != 777+k }) {
			t.Errorf("results for %v, %v and %v share memory", a, joints, target)
		}
	}
	for _, list := range [][]int{whole(b.Links), whole(b.Low), whole(b.High), whole(angles)} {
		fill(list, 888)
	}
	if !slices.EqualFunc(kept, want, slices.Equal[[]int]) {
		t.Errorf("a result for %v, %v and %v shares memory with an argument or with another result", a, joints, target)
	}
}

func TestSearchesChangeAndShareNothing(t *testing.T) {
	small := []impl.Arm{evenArm(-5, 6, 100, 50), evenArm(0, 0, 3, 4), evenArm(-1, 1, 500, 500)}
	for _, a := range append(validArms(), small...) {
		for _, joints := range someJoints(a) {
			checkSearchMemory(t, a, joints, point(30, 40))
			checkSearchMemory(t, a, joints, impl.TipOf(a, joints))
			checkSearchMemory(t, a, joints, point(-greatest, greatest))
			checkSearchMemory(t, a, joints, point(-greatest, greatest+1))
		}
		for _, joints := range wrongOrBeyond(a) {
			checkSearchMemory(t, a, joints, point(30, 40))
		}
	}
	for _, a := range invalidArms() {
		for _, joints := range anyJoints(a) {
			checkSearchMemory(t, a, joints, point(30, 40))
		}
	}
}
