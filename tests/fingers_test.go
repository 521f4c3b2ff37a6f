package tests

import (
	"slices"
	"testing"

	"loop.example/robotcell/impl"
)

const wideOpen = impl.MaxWidth

// gripRanges are the least and the greatest valid arguments of GripStep and
// GripTime.
var gripRanges = [][2]int{{0, wideOpen}, {0, wideOpen}, {1, wideOpen}, {0, wideOpen}}

// wantedGrip moves the fingers by one at a time.
func wantedGrip(width int, target int, speed int, object int) (int, bool) {
	for moves := 0; moves < speed && width < target; moves++ {
		width++
	}
	for moves := 0; moves < speed && width > target && width != object; moves++ {
		width--
	}
	return width, object >= 1 && width == object && target < object
}

// someWidths are small ones, the greatest ones, and some between with those
// beside them.
func someWidths() []int {
	return []int{0, 1, 2, 3, 4, 7, 10, 29, 30, 31, 49, 50, 51, 80, 99, 100, 101, 149, 150, 151, 169, 170, 171, 198, 199, wideOpen}
}

// objectsNear are no object, and those as wide as the fingers are apart before
// and after a motion, next to these widths, and between them.
func objectsNear(width int, target int) []int {
	return bounds(0, wideOpen, 0, 1, target-1, target, target+1, (width+target)/2, width-1, width, width+1, wideOpen)
}

// speedsNear are those with which the target and the object are reached just in
// one step or in two, or just not.
func speedsNear(width int, target int, object int) []int {
	list := []int{1, 2, wideOpen - 1, wideOpen}
	for _, way := range []int{absolute(target - width), absolute(object - width)} {
		list = append(list, way-1, way, way+1, way/2, way/2+1)
	}
	return bounds(1, wideOpen, list...)
}

// eachGrip calls a function for all widths and targets, and the objects and the
// speeds that matter for them; and for all small arguments.
func eachGrip(call func(width int, target int, speed int, object int)) {
	for width := 0; width <= wideOpen; width++ {
		for target := 0; target <= wideOpen; target++ {
			for _, object := range objectsNear(width, target) {
				for _, speed := range speedsNear(width, target, object) {
					call(width, target, speed, object)
				}
			}
		}
	}
	for width := 0; width <= 9; width++ {
		for target := 0; target <= 9; target++ {
			for object := 0; object <= 10; object++ {
				for speed := 1; speed <= 10; speed++ {
					call(width, target, speed, object)
				}
			}
		}
	}
}

// eachSpoiled calls a function with all lists in which at least one of some
// valid arguments is replaced by a number out of its range.
func eachSpoiled(valid []int, ranges [][2]int, call func(args []int)) {
	args := slices.Clone(valid)
	var spoil func(k int, spoiled bool)
	spoil = func(k int, spoiled bool) {
		if k < len(args) {
			args[k] = valid[k]
			spoil(k+1, spoiled)
			for _, n := range outOf(ranges[k][0], ranges[k][1]) {
				args[k] = n
				spoil(k+1, true)
			}
		} else if spoiled {
			call(args)
		}
	}
	spoil(0, false)
}

func TestGripperConstants(t *testing.T) {
	if impl.MaxWidth != 200 || impl.MaxForce != 1000 {
		t.Fatalf("MaxWidth and MaxForce are %d and %d", impl.MaxWidth, impl.MaxForce)
	}
}

func TestGripStepExamples(t *testing.T) {
	for _, c := range []struct {
		width, target, speed, object int
		want                         int
		holds                        bool
	}{
		// Closing without an object, to a target that is nearer than speed, as
		// far as speed, and farther.
		{50, 30, 21, 0, 30, false},
		{50, 30, 20, 0, 30, false},
		{50, 30, 19, 0, 31, false},
		{50, 30, 1, 0, 49, false},
		{200, 0, 200, 0, 0, false},
		{200, 0, 199, 0, 1, false},
		{200, 0, 1, 0, 199, false},
		{1, 0, 1, 0, 0, false},
		{1, 0, 200, 0, 0, false},
		// Opening without an object.
		{30, 50, 21, 0, 50, false},
		{30, 50, 20, 0, 50, false},
		{30, 50, 19, 0, 49, false},
		{0, 200, 200, 0, 200, false},
		{0, 200, 199, 0, 199, false},
		{0, 200, 1, 0, 1, false},
		{0, 1, 1, 0, 1, false},
		// The target is the width: with no object, with one narrower than the
		// width, one as wide, and one wider.
		{0, 0, 1, 0, 0, false},
		{0, 0, 200, 200, 0, false},
		{200, 200, 1, 0, 200, false},
		{200, 200, 200, 200, 200, false},
		{50, 50, 7, 40, 50, false},
		{50, 50, 7, 50, 50, false},
		{50, 50, 7, 60, 50, false},
		// Closing on an object narrower than the target, and one as wide.
		{50, 30, 5, 20, 45, false},
		{50, 30, 20, 29, 30, false},
		{50, 30, 20, 30, 30, false},
		{50, 30, 200, 30, 30, false},
		{50, 30, 20, 1, 30, false},
		// Closing on an object between target and width: before it, just at it,
		// and farther by the speed.
		{50, 30, 9, 40, 41, false},
		{50, 30, 10, 40, 40, true},
		{50, 30, 11, 40, 40, true},
		{50, 30, 200, 40, 40, true},
		{50, 30, 19, 31, 31, true},
		{50, 30, 20, 31, 31, true},
		{50, 30, 18, 31, 32, false},
		{50, 30, 1, 49, 49, true},
		{50, 30, 2, 49, 49, true},
		{200, 0, 200, 1, 1, true},
		{200, 0, 199, 1, 1, true},
		{200, 0, 198, 1, 2, false},
		// Closing on an object as wide as the width.
		{50, 30, 1, 50, 50, true},
		{50, 0, 200, 50, 50, true},
		{50, 49, 1, 50, 50, true},
		{200, 0, 200, 200, 200, true},
		{1, 0, 1, 1, 1, true},
		// Closing with an object wider than the width, which is not between.
		{50, 30, 7, 51, 43, false},
		{50, 30, 20, 51, 30, false},
		{50, 0, 200, 60, 0, false},
		{50, 0, 1, 200, 49, false},
		{199, 0, 200, 200, 0, false},
		{0, 0, 1, 1, 0, false},
		// Opening with an object narrower than the width, as wide as the width,
		// between width and target, as wide as the target, and wider.
		{30, 50, 7, 20, 37, false},
		{30, 50, 7, 30, 37, false},
		{30, 50, 10, 40, 40, false},
		{30, 50, 11, 40, 41, false},
		{30, 50, 200, 40, 50, false},
		{30, 50, 20, 50, 50, false},
		{30, 50, 200, 50, 50, false},
		{30, 50, 20, 60, 50, false},
		{30, 50, 1, 31, 31, false},
		{0, 200, 200, 200, 200, false},
		{0, 1, 1, 1, 1, false},
	} {
		got, holds := impl.GripStep(c.width, c.target, c.speed, c.object)
		if got != c.want || holds != c.holds {
			t.Errorf("GripStep(%d, %d, %d, %d) is %d and %v, not %d and %v", c.width, c.target, c.speed, c.object, got, holds, c.want, c.holds)
		}
	}
}

func checkGrip(t *testing.T, width int, target int, speed int, object int) {
	got, holds := impl.GripStep(width, target, speed, object)
	want, wantedHolds := wantedGrip(width, target, speed, object)
	if got != want || holds != wantedHolds {
		t.Errorf("GripStep(%d, %d, %d, %d) is %d and %v, not %d and %v", width, target, speed, object, got, holds, want, wantedHolds)
	}
	if absolute(got-width) > speed {
		t.Errorf("GripStep(%d, %d, %d, %d) is %d, which is more than speed away", width, target, speed, object, got)
	}
	if got < min(width, target) || got > max(width, target) {
		t.Errorf("GripStep(%d, %d, %d, %d) is %d, which is not on the way", width, target, speed, object, got)
	}
	if object <= width && got < object {
		t.Errorf("GripStep(%d, %d, %d, %d) is %d, which is below the object", width, target, speed, object, got)
	}
	if holds && (object == 0 || got != object || target >= got) {
		t.Errorf("GripStep(%d, %d, %d, %d) is %d, and the gripper holds", width, target, speed, object, got)
	}
}

// Promise 67.
func TestFingersStopAtTheObject(t *testing.T) {
	eachGrip(func(width int, target int, speed int, object int) {
		checkGrip(t, width, target, speed, object)
	})
}

// Promise 67, for combinations of arguments that need not be near each other.
func TestGripStepOfSomeWidths(t *testing.T) {
	for _, width := range someWidths() {
		for _, target := range someWidths() {
			for _, object := range someWidths() {
				for _, speed := range someWidths()[1:] {
					checkGrip(t, width, target, speed, object)
				}
			}
		}
	}
}

// Promise 67. An object that is held stays held, and one that is not between the
// fingers does not matter.
func TestHeldObjectsStayHeld(t *testing.T) {
	eachGrip(func(width int, target int, speed int, object int) {
		got, holds := impl.GripStep(width, target, speed, object)
		if holds {
			if again, stays := impl.GripStep(got, target, speed, object); again != got || !stays {
				t.Errorf("after GripStep(%d, %d, %d, %d) with %d and true comes %d and %v", width, target, speed, object, got, again, stays)
			}
		}
		if other, _ := impl.GripStep(width, target, speed, 0); object > width && other != got {
			t.Errorf("GripStep(%d, %d, %d, %d) is %d, and %d without the object", width, target, speed, object, got, other)
		}
	})
}

// eachInvalidGrip calls a function with at least one argument out of range. The
// valid ones move the fingers in both directions, do not move them, and hold an
// object before and after the step.
func eachInvalidGrip(call func(width int, target int, speed int, object int)) {
	for _, valid := range [][]int{
		{0, 0, 1, 0}, {wideOpen, wideOpen, wideOpen, wideOpen}, {80, 0, 30, 40}, {50, 90, 30, 40}, {50, 0, 10, 50}, {50, 20, 10, 40}, {50, 20, 7, 60}, {wideOpen, 0, wideOpen, 0}, {0, wideOpen, 1, 1},
	} {
		eachSpoiled(valid, gripRanges, func(args []int) { call(args[0], args[1], args[2], args[3]) })
	}
	for _, n := range append([]int{-1, wideOpen + 1}, extremes...) {
		call(n, n, n, n)
	}
}

// Promise 67, for invalid arguments.
func TestGripStepOfInvalidArguments(t *testing.T) {
	eachInvalidGrip(func(width int, target int, speed int, object int) {
		if got, holds := impl.GripStep(width, target, speed, object); got != -1 || holds {
			t.Errorf("GripStep(%d, %d, %d, %d) is %d and %v", width, target, speed, object, got, holds)
		}
	})
}

// Promise 128, for all widths, objects and speeds that are high enough.
func TestClosingGrippersHoldWhatIsBetween(t *testing.T) {
	for width := 1; width <= wideOpen; width++ {
		for object := 1; object <= width; object++ {
			for speed := max(1, width-object); speed <= wideOpen; speed++ {
				if got, holds := impl.GripStep(width, 0, speed, object); got != object || !holds {
					t.Errorf("GripStep(%d, 0, %d, %d) is %d and %v", width, speed, object, got, holds)
				}
			}
		}
	}
}

// Promise 128. There is nothing to hold between the fingers.
func TestClosingGrippersHoldNothingElse(t *testing.T) {
	for width := 0; width <= wideOpen; width++ {
		for speed := max(1, width); speed <= wideOpen; speed++ {
			for _, object := range bounds(0, wideOpen, 0, width+1, width+2, wideOpen) {
				got, holds := impl.GripStep(width, 0, speed, object)
				if between := object >= 1 && object <= width; holds != between || !between && got != 0 {
					t.Errorf("GripStep(%d, 0, %d, %d) is %d and %v", width, speed, object, got, holds)
				}
			}
		}
	}
}

// Promise 128, for all openings and objects.
func TestOpeningGrippersHoldNothing(t *testing.T) {
	for width := 0; width <= wideOpen; width++ {
		for target := width; target <= wideOpen; target++ {
			for object := 0; object <= wideOpen; object++ {
				for _, speed := range bounds(1, wideOpen, 1, object-width, target-width, wideOpen) {
					if _, holds := impl.GripStep(width, target, speed, object); holds {
						t.Errorf("GripStep(%d, %d, %d, %d) holds", width, target, speed, object)
					}
				}
			}
		}
	}
}
