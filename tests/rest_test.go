package tests

import (
	"testing"

	"loop.example/robotcell/impl"
)

// wantedRest counts the steps that a speed needs for the way to the target or to
// the object. The greatest speed needs at most one.
func wantedRest(width int, target int, speed int, object int) int {
	end, _ := wantedGrip(width, target, wideOpen, object)
	steps := 0
	for steps*speed < absolute(end-width) {
		steps++
	}
	return steps
}

func TestGripTimeExamples(t *testing.T) {
	for _, c := range []struct{ width, target, speed, object, want int }{
		// No steps: at the target, and at the object.
		{0, 0, 1, 0, 0}, {200, 200, 200, 0, 0}, {50, 50, 7, 0, 0}, {50, 50, 7, 40, 0}, {50, 50, 7, 50, 0}, {50, 50, 7, 60, 0},
		{50, 0, 1, 50, 0}, {50, 49, 200, 50, 0}, {200, 0, 3, 200, 0}, {1, 0, 1, 1, 0},
		// One step.
		{50, 49, 1, 0, 1}, {50, 51, 1, 0, 1}, {50, 30, 20, 0, 1}, {50, 30, 21, 0, 1}, {30, 50, 20, 0, 1}, {30, 50, 200, 0, 1},
		{200, 0, 200, 0, 1}, {0, 200, 200, 0, 1}, {50, 0, 10, 40, 1}, {50, 0, 200, 1, 1},
		// A distance that the speed divides, and those beside it.
		{80, 50, 10, 0, 3}, {79, 50, 10, 0, 3}, {81, 50, 10, 0, 4}, {50, 80, 10, 0, 3}, {50, 79, 10, 0, 3}, {50, 81, 10, 0, 4},
		{71, 50, 10, 0, 3}, {70, 50, 10, 0, 2}, {50, 30, 19, 0, 2}, {50, 30, 10, 0, 2}, {50, 30, 9, 0, 3},
		{200, 0, 199, 0, 2}, {0, 200, 199, 0, 2}, {200, 0, 100, 0, 2}, {200, 0, 99, 0, 3}, {200, 0, 1, 0, 200}, {0, 200, 1, 0, 200},
		// Stopped by an object before the target.
		{80, 0, 30, 40, 2}, {80, 0, 40, 40, 1}, {80, 0, 39, 40, 2}, {80, 0, 1, 40, 40}, {80, 0, 13, 40, 4}, {80, 0, 1, 79, 1}, {200, 0, 1, 1, 199}, {200, 199, 5, 200, 0},
		// An object as wide as the target, and one that is narrower.
		{80, 40, 10, 40, 4}, {80, 40, 10, 39, 4}, {80, 40, 10, 1, 4},
		// An object that is wider than the width does not stop the fingers.
		{50, 0, 10, 51, 5}, {50, 0, 10, 200, 5}, {50, 0, 7, 60, 8}, {0, 0, 1, 1, 0}, {199, 0, 200, 200, 1},
		// No object stops fingers that open.
		{50, 90, 10, 40, 4}, {50, 90, 10, 50, 4}, {50, 90, 10, 60, 4}, {50, 90, 10, 65, 4}, {50, 90, 10, 90, 4}, {50, 90, 10, 95, 4}, {0, 200, 1, 100, 200},
	} {
		if got := impl.GripTime(c.width, c.target, c.speed, c.object); got != c.want {
			t.Errorf("GripTime(%d, %d, %d, %d) is %d, not %d", c.width, c.target, c.speed, c.object, got, c.want)
		}
	}
}

// Promise 68.
func TestFingersComeToRest(t *testing.T) {
	eachGrip(func(width int, target int, speed int, object int) {
		got := impl.GripTime(width, target, speed, object)
		if want := wantedRest(width, target, speed, object); got != want {
			t.Errorf("GripTime(%d, %d, %d, %d) is %d, not %d", width, target, speed, object, got, want)
		}
		if got < 0 || got > absolute(target-width) {
			t.Errorf("GripTime(%d, %d, %d, %d) is %d, which is more than the distance", width, target, speed, object, got)
		}
		if speed < wideOpen && impl.GripTime(width, target, speed+1, object) > got {
			t.Errorf("GripTime(%d, %d, %d, %d) is longer than with the speed %d", width, target, speed+1, object, speed)
		}
	})
}

// Promise 68, for every speed.
func TestHigherSpeedsAreNotSlower(t *testing.T) {
	for _, width := range someWidths() {
		for _, target := range someWidths() {
			for _, object := range someWidths() {
				before := absolute(target - width)
				for speed := 1; speed <= wideOpen; speed++ {
					got := impl.GripTime(width, target, speed, object)
					if got < 0 || got > before {
						t.Fatalf("GripTime(%d, %d, %d, %d) is %d, after %d", width, target, speed, object, got, before)
					}
					before = got
				}
			}
		}
	}
}

// widthAfter repeats GripStep.
func widthAfter(width int, target int, speed int, object int, steps int) int {
	for range steps {
		width, _ = impl.GripStep(width, target, speed, object)
	}
	return width
}

// Promise 68: one more step changes nothing, and one less does not suffice.
func TestOneMoreStepChangesNothing(t *testing.T) {
	for _, width := range someWidths() {
		for _, target := range someWidths() {
			for _, object := range someWidths() {
				for _, speed := range speedsNear(width, target, object) {
					steps := impl.GripTime(width, target, speed, object)
					end := widthAfter(width, target, speed, object, steps)
					if more := widthAfter(end, target, speed, object, 1); more != end {
						t.Fatalf("after %d steps with %d, %d, %d and %d the width %d becomes %d", steps, width, target, speed, object, end, more)
					}
					if steps > 0 && widthAfter(width, target, speed, object, steps-1) == end {
						t.Fatalf("one step less than %d suffices with %d, %d, %d and %d", steps, width, target, speed, object)
					}
				}
			}
		}
	}
}

// Promise 68. The time is that of both parts, if the way is cut after a step.
func TestTheFirstStepTakesOneOfTheTime(t *testing.T) {
	eachGrip(func(width int, target int, speed int, object int) {
		next, _ := impl.GripStep(width, target, speed, object)
		got := impl.GripTime(width, target, speed, object)
		if rest := impl.GripTime(next, target, speed, object); rest != max(0, got-1) {
			t.Errorf("GripTime(%d, %d, %d, %d) is %d, and %d after a step", width, target, speed, object, got, rest)
		}
	})
}

// Promise 68, for invalid arguments.
func TestGripTimeOfInvalidArguments(t *testing.T) {
	eachInvalidGrip(func(width int, target int, speed int, object int) {
		if got := impl.GripTime(width, target, speed, object); got != -1 {
			t.Errorf("GripTime(%d, %d, %d, %d) is %d", width, target, speed, object, got)
		}
	})
}
