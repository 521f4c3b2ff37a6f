package tests

import (
	"slices"
	"testing"

	"loop.example/robotcell/impl"
)

// press is what a tool is pressed with: PressStep's arguments without the place.
type press struct {
	wall  int
	stiff int
	force int
	speed int
}

// pressRanges are the least and the greatest valid arguments of PressStep.
var pressRanges = [][2]int{{-greatest, greatest}, {-greatest, greatest}, {1, stiffest}, {1, strongest}, {1, fastest}}

func (p press) step(place int) int {
	return impl.PressStep(place, p.wall, p.stiff, p.force, p.speed)
}

func (p press) exceeded(place int) bool {
	return wantedForce(place, p.wall, p.stiff) > p.force
}

// bound is the number b of the document: how often the stiffness fits into what is
// missing of the force, but at least 1.
func (p press) bound(place int) int {
	missing := p.force - wantedForce(place, p.wall, p.stiff)
	times := 1
	for (times+1)*p.stiff <= missing {
		times++
	}
	return times
}

// wantedStep tries every number that the speed and b allow.
func (p press) wantedStep(place int) int {
	if p.exceeded(place) {
		return max(place-1, -greatest)
	}
	best := 0
	for d := 0; d <= min(p.speed, p.bound(place)); d++ {
		if !p.exceeded(place + d) {
			best = d
		}
	}
	return min(place+best, greatest)
}

// rest is the place where a tool comes to rest: as deep as the force allows, if
// there is room for it.
func (p press) rest() int {
	return min(p.wall+p.force/p.stiff, greatest)
}

// forcesOf are the multiples of a stiffness that are wanted forces, those one below
// and one above them, and the ends of the range.
func forcesOf(stiff int) []int {
	list := []int{1, 2, 500, strongest - 1, strongest}
	for n := stiff; n <= strongest+1; n += stiff {
		list = append(list, n-1, n, n+1)
	}
	return bounds(1, strongest, list...)
}

// fewForcesOf are those of forcesOf that are near the ends of their range or of the
// stiffness.
func fewForcesOf(stiff int) []int {
	most := strongest / stiff * stiff
	return bounds(1, strongest, 1, 2, stiff-1, stiff, stiff+1, 2*stiff-1, 2*stiff, 2*stiff+1, 7*stiff-1, 7*stiff, 7*stiff+1, 45, 500, most-1, most, most+1, strongest-1, strongest)
}

// pacesOf are speeds that bound a step and ones that do not.
func (p press) pacesOf() []int {
	deepest := p.force / p.stiff
	return bounds(1, fastest, 1, 2, deepest/2, deepest-1, deepest, deepest+1, fastest-1, fastest)
}

// placesOf are the places that matter for the wall, for the place of rest, for the
// speed, and for the end of the range.
func (p press) placesOf() []int {
	rest := p.wall + p.force/p.stiff
	return bounds(-greatest, greatest,
		-greatest, -greatest+1, p.wall-fastest-1, p.wall-2, p.wall-1, p.wall, p.wall+1, p.wall+2,
		(p.wall+rest)/2, rest-p.speed-1, rest-p.speed, rest-p.speed+1, rest-2, rest-1, rest, rest+1, rest+2, rest+fastest,
		greatest-p.speed-1, greatest-p.speed, greatest-p.speed+1, greatest-1, greatest)
}

// lastWalls are those with which a tool comes to rest one unit before the end of the
// range, just at it, and there only because there is no more room.
func lastWalls(stiff int, force int) []int {
	last := greatest - force/stiff
	return bounds(-greatest, greatest, last-1, last, last+1)
}

// eachPress calls a function for every stiffness with the forces, speeds and places
// that matter for it; for some of them also with the walls that matter; and for all
// small arguments.
func eachPress(call func(p press, place int)) {
	for stiff := 1; stiff <= stiffest; stiff++ {
		for _, force := range forcesOf(stiff) {
			eachPace(press{wall: 50, stiff: stiff, force: force}, call)
		}
	}
	for _, stiff := range []int{1, 2, 3, 7, 10, 45, 99, stiffest} {
		for _, force := range fewForcesOf(stiff) {
			for _, wall := range append(lastWalls(stiff, force), wallsAround...) {
				eachPace(press{wall: wall, stiff: stiff, force: force}, call)
			}
		}
	}
	for stiff := 1; stiff <= 8; stiff++ {
		for force := 1; force <= 30; force++ {
			for speed := 1; speed <= 10; speed++ {
				for place := -12; place <= force+3; place++ {
					call(press{0, stiff, force, speed}, place)
				}
			}
		}
	}
}

// eachPace calls a function with the speeds and the places that matter.
func eachPace(p press, call func(p press, place int)) {
	for _, speed := range p.pacesOf() {
		p.speed = speed
		for _, place := range p.placesOf() {
			call(p, place)
		}
	}
}

func TestPressStepExamples(t *testing.T) {
	for _, c := range []struct{ place, wall, stiff, force, speed, want int }{
		// A force that is exceeded: the tool moves back by 1, whatever the speed.
		{12, 5, 10, 45, 20, 11}, {12, 5, 10, 45, 1, 11}, {12, 5, 10, 45, 200, 11}, {10, 5, 10, 45, 20, 9}, {10, 5, 10, 49, 20, 9}, {6, 5, 10, 9, 20, 5}, {6, 5, 2, 1, 20, 5}, {9000, 5, 100, 1, 3, 8999}, {-3, -5, 10, 15, 3, -4},
		// A force that is met exactly: there is nothing to do.
		{10, 5, 10, 50, 20, 10}, {10, 5, 10, 50, 1, 10}, {6, 5, 10, 10, 20, 6}, {1005, 5, 1, 1000, 200, 1005}, {15, 5, 100, 1000, 200, 15}, {-3, -5, 10, 20, 3, -3},
		// A force that is not reached, but would be exceeded one unit farther.
		{9, 5, 10, 45, 20, 9}, {9, 5, 10, 49, 20, 9}, {9, 5, 10, 41, 1, 9}, {10, 5, 10, 51, 20, 10}, {10, 5, 10, 59, 200, 10}, {5, 5, 10, 9, 20, 5}, {5, 5, 100, 99, 1, 5}, {5, 5, 2, 1, 200, 5},
		// A force that is not reached, and that a step reaches, just or nearly.
		{9, 5, 10, 50, 20, 10}, {9, 5, 10, 51, 20, 10}, {9, 5, 10, 59, 20, 10}, {9, 5, 10, 60, 20, 11}, {9, 5, 10, 60, 2, 11}, {9, 5, 10, 60, 1, 10}, {5, 5, 10, 45, 20, 9}, {5, 5, 10, 50, 20, 10}, {5, 5, 10, 50, 5, 10}, {5, 5, 10, 50, 4, 9}, {5, 5, 100, 100, 1, 6}, {5, 5, 100, 101, 9, 6}, {5, 5, 100, 199, 9, 6}, {5, 5, 100, 200, 9, 7}, {-9, -9, 7, 48, 20, -3}, {-9, -9, 7, 49, 20, -2}, {-9, -9, 7, 50, 20, -2},
		// Far before the wall, where the speed bounds the step, or the missing force
		// divided by the stiffness.
		{0, 50, 10, 45, 3, 3}, {0, 50, 10, 45, 4, 4}, {0, 50, 10, 45, 5, 4}, {0, 50, 10, 45, 200, 4}, {0, 50, 10, 40, 200, 4}, {0, 50, 10, 39, 200, 3}, {0, 50, 10, 41, 200, 4}, {0, 50, 10, 49, 200, 4}, {0, 50, 10, 50, 200, 5},
		{0, 5000, 1, 1000, 200, 200}, {0, 5000, 1, 1000, 199, 199}, {0, 5000, 1, 199, 200, 199}, {0, 5000, 1, 200, 200, 200}, {0, 5000, 1, 201, 200, 200}, {0, 5000, 1, 1000, 1, 1}, {0, 5000, 1, 1, 200, 1}, {0, 5000, 1, 2, 200, 2},
		{0, 5000, 5, 1000, 200, 200}, {0, 5000, 5, 999, 200, 199}, {0, 5000, 100, 1000, 200, 10}, {0, 5000, 100, 999, 200, 9}, {0, 5000, 100, 1000, 10, 10}, {0, 5000, 100, 1000, 9, 9},
		// Near the wall, and across it.
		{49, 50, 10, 45, 20, 53}, {48, 50, 10, 45, 20, 52}, {47, 50, 10, 45, 20, 51}, {46, 50, 10, 45, 20, 50}, {45, 50, 10, 45, 20, 49}, {49, 50, 10, 45, 3, 52}, {49, 50, 10, 45, 1, 50}, {-1, 0, 1, 1000, 200, 199}, {0, 50, 1, 120, 200, 120}, {0, 50, 1, 170, 200, 170},
		// A stiffness greater than the force: one unit at a time, up to the wall.
		{0, 50, 100, 45, 3, 1}, {0, 50, 100, 45, 200, 1}, {0, 50, 46, 45, 200, 1}, {0, 50, 45, 45, 200, 1}, {0, 50, 23, 45, 200, 1}, {0, 50, 22, 45, 200, 2}, {48, 50, 100, 45, 200, 49}, {49, 50, 100, 45, 200, 50}, {49, 50, 100, 1, 1, 50}, {50, 50, 100, 45, 200, 50}, {50, 50, 46, 45, 200, 50}, {50, 50, 45, 45, 200, 51}, {51, 50, 100, 45, 200, 50}, {51, 50, 46, 45, 200, 50}, {51, 50, 45, 45, 200, 51},
		// Just to the end of the range, nearly, and beyond it.
		{9800, 10000, 1, 1000, 200, 10000}, {9799, 10000, 1, 1000, 200, 9999}, {9801, 10000, 1, 1000, 200, 10000}, {9999, 10000, 1, 1000, 200, 10000}, {10000, 10000, 1, 1000, 200, 10000}, {10000, 10000, 100, 1000, 1, 10000}, {10000, 10000, 100, 1, 1, 10000},
		{9998, 9995, 10, 100, 5, 10000}, {9998, 9995, 10, 100, 2, 10000}, {9998, 9995, 10, 100, 1, 9999}, {9997, 9995, 10, 50, 200, 10000}, {9999, 9995, 10, 49, 200, 9999}, {9999, 9995, 10, 50, 200, 10000},
		{10000, 9995, 10, 49, 5, 9999}, {10000, 9995, 10, 50, 5, 10000}, {10000, 9995, 10, 51, 5, 10000}, {10000, 9995, 10, 1000, 200, 10000}, {10000, -10000, 1, 1000, 200, 9999}, {10000, -10000, 100, 1, 1, 9999},
		// At the other end of the range.
		{-10000, 10000, 1, 1000, 200, -9800}, {-10000, 10000, 100, 1, 1, -9999}, {-10000, -10000, 1, 1, 1, -9999}, {-10000, -10000, 100, 99, 5, -10000}, {-10000, -10000, 10, 45, 200, -9996}, {-9999, -10000, 100, 1, 200, -10000}, {-9999, -10000, 1, 1, 5, -9999}, {-10000, -9999, 100, 1, 5, -9999},
		// Arguments that are one below or beyond their range: the place, even one
		// that is out of range, is returned.
		{10001, 5, 10, 45, 20, 10001}, {-10001, 5, 10, 45, 20, -10001}, {10001, 10000, 1, 1000, 200, 10001}, {-10001, -10000, 1, 1000, 200, -10001}, {10200, 10000, 1, 1000, 200, 10200},
		{12, 10001, 10, 45, 20, 12}, {12, -10001, 10, 45, 20, 12}, {12, 5, 0, 45, 20, 12}, {12, 5, 101, 45, 20, 12}, {12, 5, 10, 0, 20, 12}, {12, 5, 10, 1001, 20, 12}, {12, 5, 10, 45, 0, 12}, {12, 5, 10, 45, 201, 12},
		{0, 10001, 10, 45, 20, 0}, {0, -10001, 10, 45, 20, 0}, {0, 5, 0, 45, 20, 0}, {0, 5, -1, 45, 20, 0}, {0, 5, 101, 45, 20, 0}, {0, 5, 10, 0, 20, 0}, {0, 5, 10, -1, 20, 0}, {0, 5, 10, 1001, 20, 0}, {0, 5, 10, 45, 0, 0}, {0, 5, 10, 45, -1, 0}, {0, 5, 10, 45, 201, 0},
		// Several of them together.
		{0, 5, 0, 0, 0, 0}, {0, 5, 101, 1001, 201, 0}, {12, 10001, 0, 45, 20, 12}, {10001, 10001, 10, 45, 20, 10001}, {-10001, 5, 10, 0, 201, -10001}, {12, 5, 10, 0, 0, 12}, {10001, 10001, 101, 1001, 201, 10001}, {-10001, -10001, 0, 0, 0, -10001},
	} {
		p := press{c.wall, c.stiff, c.force, c.speed}
		if got := p.step(c.place); got != c.want {
			t.Errorf("PressStep(%d, %v) is %d, not %d", c.place, p, got, c.want)
		}
	}
}

// Promise 79: the step is the greatest one that is possible, or 1 back.
func TestPressStepsAreTheGreatest(t *testing.T) {
	eachPress(func(p press, place int) {
		if got, want := p.step(place), p.wantedStep(place); got != want {
			t.Errorf("PressStep(%d, %v) is %d, not %d", place, p, got, want)
		}
	})
}

// Promise 79, with the program's own forces.
func TestPressingDoesNotExceedTheForce(t *testing.T) {
	eachPress(func(p press, place int) {
		before, got := impl.ContactForce(place, p.wall, p.stiff), p.step(place)
		after := impl.ContactForce(got, p.wall, p.stiff)
		switch {
		case after < 0:
			t.Errorf("PressStep(%d, %v) is %d, which is no place", place, p, got)
		case before <= p.force && after > p.force:
			t.Errorf("PressStep(%d, %v) is %d, where the force is %d", place, p, got, after)
		case before <= p.force && (got < place || got > place+p.speed):
			t.Errorf("PressStep(%d, %v) is %d, which is more than the speed away", place, p, got)
		case before > p.force && (got != place-1 || after != before-p.stiff):
			t.Errorf("PressStep(%d, %v) is %d, which is not 1 back", place, p, got)
		}
	})
}

// Promise 79. Where the wanted force is between two multiples of the stiffness, the
// tool moves as with the lower one, unless that is 0: then it moves by 1, to the
// wall, and stays there.
func TestForcesBetweenMultiples(t *testing.T) {
	for stiff := 1; stiff <= stiffest; stiff++ {
		for force := 1; force <= strongest; force++ {
			lower := force / stiff * stiff
			for _, speed := range []int{1, 2, 7, fastest} {
				for depth := -9; depth <= lower/stiff+2; depth += 1 + max(0, depth)/20 {
					got, want := press{77, stiff, force, speed}.step(77+depth), 77+depth-sign(depth)
					if lower > 0 {
						want = press{77, stiff, lower, speed}.step(77 + depth)
					}
					if got != want {
						t.Errorf("PressStep(%d, 77, %d, %d, %d) is %d, not %d", 77+depth, stiff, force, speed, got, want)
					}
				}
			}
		}
	}
}

// Promise 79. The last steps before the place of rest are those that the missing
// force allows, so that the place of rest is reached at once if the speed allows
// it, and not passed.
func TestStepsReachThePlaceOfRest(t *testing.T) {
	for stiff := 1; stiff <= stiffest; stiff++ {
		for _, force := range forcesOf(stiff) {
			deepest := force / stiff
			for depth := max(0, deepest-210); depth <= deepest; depth++ {
				for _, speed := range bounds(1, fastest, 1, deepest-depth-1, deepest-depth, deepest-depth+1, fastest) {
					want := min(deepest, depth+speed)
					if got := (press{0, stiff, force, speed}).step(depth); got != want {
						t.Errorf("PressStep(%d, 0, %d, %d, %d) is %d, not %d", depth, stiff, force, speed, got, want)
					}
				}
			}
		}
	}
}

// Promise 79. Far before the wall, only the force, the stiffness and the speed
// matter.
func TestStepsFarBeforeTheWall(t *testing.T) {
	for stiff := 1; stiff <= stiffest; stiff++ {
		for _, force := range forcesOf(stiff) {
			for _, speed := range (press{0, stiff, force, fastest}).pacesOf() {
				want := min(speed, max(1, force/stiff))
				for _, place := range []int{-greatest, -5000, greatest - fastest - 1} {
					if got := (press{greatest, stiff, force, speed}).step(place); got != place+want {
						t.Errorf("PressStep(%d, %d, %d, %d, %d) is %d, not %d", place, greatest, stiff, force, speed, got, place+want)
					}
				}
			}
		}
	}
}

// Promise 79. A step does not depend on where the wall is, as long as the ends of
// the range are far.
func TestStepsDependOnTheDepth(t *testing.T) {
	for _, stiff := range []int{1, 3, 10, 46, stiffest} {
		for _, force := range fewForcesOf(stiff) {
			for _, speed := range []int{1, 7, fastest} {
				for _, depth := range []int{-300, -7, -1, 0, 1, 4, 33, 300, 1100} {
					want := press{0, stiff, force, speed}.step(depth)
					for _, wall := range []int{-9700, -1234, -1, 1, 77, 8600} {
						if got := (press{wall, stiff, force, speed}).step(wall + depth); got != wall+want {
							t.Errorf("PressStep(%d, %d, %d, %d, %d) is %d, not %d", wall+depth, wall, stiff, force, speed, got, wall+want)
						}
					}
				}
			}
		}
	}
}

// Promise 79, for invalid arguments, also several of them together. With the valid
// ones the tool moves forward or back.
func TestPressStepOfInvalidArguments(t *testing.T) {
	check := func(args []int) {
		if got := (press{args[1], args[2], args[3], args[4]}).step(args[0]); got != args[0] {
			t.Errorf("PressStep of %v is %d", args, got)
		}
	}
	for _, valid := range [][]int{
		{0, 5, 10, 45, 20}, {12, 5, 10, 45, 20}, {-greatest, -greatest, 1, strongest, fastest}, {-greatest, greatest, stiffest, 1, 1}, {greatest, -greatest, stiffest, strongest, fastest}, {9900, greatest, 1, strongest, fastest},
	} {
		if got := (press{valid[1], valid[2], valid[3], valid[4]}).step(valid[0]); got == valid[0] {
			t.Errorf("PressStep of %v does not move the tool", valid)
		}
		eachSpoiled(valid, pressRanges, check)
	}
	for _, n := range slices.Concat([]int{-1, stiffest + 1, strongest + 1, greatest + 1, -greatest - 1}, extremes) {
		check([]int{n, n, n, n, n})
		check([]int{n, -n, n, n, n})
		check([]int{-n, n, n, n, n})
	}
}
