package tests

import (
	"testing"

	"loop.example/robotcell/impl"
)

const (
	strongest = impl.MaxForce
	roughest  = 200
)

// weightRanges are the least and the greatest valid arguments of HoldsWeight.
var weightRanges = [][2]int{{0, strongest}, {0, roughest}, {0, strongest}}

// heaviest is the greatest weight that is held, which may be more than is valid:
// one finger holds the force times the friction in hundredths, and there are two.
func heaviest(force int, friction int) int {
	return (force*friction + force*friction) / 100
}

func TestHoldsWeightExamples(t *testing.T) {
	for _, c := range []struct {
		force, friction, weight int
		want                    bool
	}{
		// At the border, and one beyond it, for each argument.
		{50, 50, 50, true}, {50, 50, 51, false}, {49, 50, 50, false}, {50, 49, 50, false},
		{500, 100, 1000, true}, {499, 100, 1000, false}, {500, 99, 1000, false}, {500, 99, 990, true}, {500, 99, 991, false},
		{1000, 50, 1000, true}, {1000, 49, 1000, false}, {1000, 49, 980, true}, {1000, 49, 981, false},
		{250, 200, 1000, true}, {249, 200, 1000, false}, {250, 199, 1000, false}, {250, 199, 995, true}, {250, 199, 996, false},
		// A border that is not a whole weight.
		{7, 33, 4, true}, {7, 33, 5, false}, {1, 50, 1, true}, {1, 49, 1, false}, {3, 17, 1, true}, {3, 16, 1, false}, {1, 99, 1, true}, {1, 99, 2, false},
		{1, 100, 2, true}, {1, 100, 3, false}, {25, 2, 1, true}, {24, 2, 1, false}, {49, 1, 1, false}, {50, 1, 1, true},
		// Without force, friction or weight.
		{0, 0, 0, true}, {0, 0, 1, false}, {0, 200, 0, true}, {0, 200, 1, false}, {1000, 0, 0, true}, {1000, 0, 1, false}, {0, 200, 1000, false}, {1000, 0, 1000, false},
		{1, 1, 0, true}, {1, 1, 1, false},
		// The greatest values.
		{1000, 200, 1000, true}, {1000, 200, 0, true}, {1000, 1, 20, true}, {1000, 1, 21, false}, {1, 200, 4, true}, {1, 200, 5, false}, {0, 0, 1000, false},
		{1000, 1, 1000, false}, {1, 200, 1000, false},
	} {
		if got := impl.HoldsWeight(c.force, c.friction, c.weight); got != c.want {
			t.Errorf("HoldsWeight(%d, %d, %d) is %v", c.force, c.friction, c.weight, got)
		}
	}
}

// Promise 69: for every force and friction, exactly the weights up to the border
// are held.
func TestHoldsWeightAtTheBorder(t *testing.T) {
	for force := 0; force <= strongest; force++ {
		for friction := 0; friction <= roughest; friction++ {
			border := heaviest(force, friction)
			for _, weight := range bounds(0, strongest, 0, border/2, border-1, border, border+1, border+2, 2*border, strongest) {
				if got := impl.HoldsWeight(force, friction, weight); got != (weight <= border) {
					t.Errorf("HoldsWeight(%d, %d, %d) is %v", force, friction, weight, got)
				}
			}
		}
	}
}

// Promise 69. What holds a weight also holds it with one more force, with one
// more friction, and with one less weight.
func TestMoreForceHoldsMore(t *testing.T) {
	for force := 0; force <= strongest; force++ {
		for friction := 0; friction <= roughest; friction += 1 + force%3 {
			for _, weight := range bounds(0, strongest, 0, 1, 2, 50, 333, 999, strongest, heaviest(force, friction)) {
				if !impl.HoldsWeight(force, friction, weight) {
					continue
				}
				if force < strongest && !impl.HoldsWeight(force+1, friction, weight) {
					t.Errorf("with more force than %d, %d does not hold %d", force, friction, weight)
				}
				if friction < roughest && !impl.HoldsWeight(force, friction+1, weight) {
					t.Errorf("with more friction than %d, %d does not hold %d", friction, force, weight)
				}
				if weight > 0 && !impl.HoldsWeight(force, friction, weight-1) {
					t.Errorf("%d and %d do not hold less weight than %d", force, friction, weight)
				}
			}
		}
	}
}

// Promise 69, for every force and friction.
func TestWithoutWeightEverythingIsHeld(t *testing.T) {
	for force := 0; force <= strongest; force++ {
		for friction := 0; friction <= roughest; friction++ {
			if !impl.HoldsWeight(force, friction, 0) {
				t.Errorf("HoldsWeight(%d, %d, 0) is false", force, friction)
			}
		}
	}
}

// Promise 69: for every weight there is a least force and a least friction, unless
// none suffices.
func TestTheLeastForceAndTheLeastFriction(t *testing.T) {
	for weight := 1; weight <= strongest; weight++ {
		for friction := 1; friction <= roughest; friction++ {
			force := (50*weight + friction - 1) / friction
			if impl.HoldsWeight(force-1, friction, weight) || impl.HoldsWeight(force, friction, weight) != (force <= strongest) {
				t.Errorf("with the friction %d the least force for %d is not %d", friction, weight, force)
			}
		}
		for force := 1; force <= strongest; force++ {
			friction := (50*weight + force - 1) / force
			if impl.HoldsWeight(force, friction-1, weight) || impl.HoldsWeight(force, friction, weight) != (friction <= roughest) {
				t.Errorf("with the force %d the least friction for %d is not %d", force, weight, friction)
			}
		}
	}
}

// Promise 69, for invalid arguments, also such that would hold by the formula, or
// by its value after a wraparound.
func TestHoldsWeightOfInvalidArguments(t *testing.T) {
	check := func(args []int) {
		if impl.HoldsWeight(args[0], args[1], args[2]) {
			t.Errorf("HoldsWeight(%d, %d, %d) is true", args[0], args[1], args[2])
		}
	}
	for _, valid := range [][]int{
		{0, 0, 0}, {strongest, roughest, strongest}, {strongest, roughest, 0}, {0, 0, strongest}, {50, 50, 50}, {1, 1, 0}, {strongest, 0, 0}, {0, roughest, 0}, {500, 100, 1000}, {1, 50, 1},
	} {
		eachSpoiled(valid, weightRanges, check)
	}
	for _, n := range append([]int{-1, roughest + 1, strongest + 1}, extremes...) {
		check([]int{n, n, n})
	}
}
