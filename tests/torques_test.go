package tests

import (
	"slices"
	"testing"

	"loop.example/robotcell/impl"
)

const (
	mostGain = 64
	gainOf1  = 16
)

// aimRanges are the least and the greatest valid arguments of AimTorque, the motor
// as its angle and its speed.
var aimRanges = [][2]int{{-greatest, greatest}, {-fastest, fastest}, {-greatest, greatest}, {0, mostGain}, {0, mostGain}}

// gainsAround are at the bounds of the range of stiff and damp and inside it.
var gainsAround = []int{0, 1, 2, 7, 15, 16, 17, 32, mostGain - 1, mostGain}

// wantedAim is the greatest torque of which 16 are not more than the pull of the
// controller, or the least torque.
func wantedAim(m impl.Motor, target int, stiff int, damp int) int {
	pull := stiff*(target-m.Angle) - damp*m.Speed
	torque := -fullTorque
	for torque < fullTorque && gainOf1*(torque+1) <= pull {
		torque++
	}
	return torque
}

// wantedBrake is the torque with which the speed after a step is nearest to 0.
func wantedBrake(speed int) int {
	best := -fullTorque
	for torque := -fullTorque; torque <= fullTorque; torque++ {
		if absolute(wantedStep(motor(0, speed), torque, 0).Speed) < absolute(wantedStep(motor(0, speed), best, 0).Speed) {
			best = torque
		}
	}
	return best
}

func TestBrakeTorqueExamples(t *testing.T) {
	for _, c := range []struct{ angle, speed, want int }{
		{0, 0, 0}, {10000, 0, 0}, {-10000, 0, 0}, {77, 0, 0},
		// Speeds that one step brings to 0, in both directions.
		{0, 1, -1}, {0, -1, 1}, {0, 50, -50}, {0, -50, 50}, {7, 99, -99}, {7, -99, 99}, {7, 100, -100}, {7, -100, 100},
		// Speeds for which one step is not enough.
		{0, 101, -100}, {0, -101, 100}, {0, 150, -100}, {0, -150, 100}, {0, 199, -100}, {0, -199, 100}, {0, 200, -100}, {0, -200, 100},
		// The angle does not matter, even where a step ends at the end of its
		// range.
		{10000, 5, -5}, {10000, -5, 5}, {-10000, 5, -5}, {-10000, -5, 5}, {10000, 200, -100}, {9950, 150, -100}, {-9950, -150, 100}, {-10000, -200, 100}, {-10000, 101, -100},
		// Invalid motors.
		{0, 201, 0}, {0, -201, 0}, {10001, 5, 0}, {-10001, 5, 0}, {10001, 201, 0}, {-10001, -201, 0}, {10001, -200, 0}, {-10001, 150, 0},
	} {
		if got := impl.BrakeTorque(motor(c.angle, c.speed)); got != c.want {
			t.Errorf("BrakeTorque(%d, %d) is %d, not %d", c.angle, c.speed, got, c.want)
		}
	}
}

// Promise 75, for all speeds: the torque is opposite to the speed, and no torque
// brings the speed nearer to 0.
func TestBrakesAreOppositeToTheSpeed(t *testing.T) {
	for speed := -fastest; speed <= fastest; speed++ {
		want := wantedBrake(speed)
		for _, angle := range anglesAround {
			got := impl.BrakeTorque(motor(angle, speed))
			if got != want {
				t.Errorf("BrakeTorque(%d, %d) is %d, not %d", angle, speed, got, want)
			}
			if sign(got) != -sign(speed) || absolute(got) > fullTorque || absolute(got) > absolute(speed) {
				t.Errorf("BrakeTorque(%d, %d) is %d, which is not opposite to the speed", angle, speed, got)
			}
		}
	}
}

// Promise 75, for all speeds. One step is enough for speeds that are not greater
// than the greatest torque.
func TestBrakesStop(t *testing.T) {
	for speed := -fastest; speed <= fastest; speed++ {
		for _, angle := range append(anglesNear(speed), anglesNear(speed-sign(speed)*fullTorque)...) {
			first := impl.MotorStep(motor(angle, speed), impl.BrakeTorque(motor(angle, speed)), 0)
			if absolute(speed) <= fullTorque && first != motor(angle, 0) {
				t.Errorf("braking the motor with %d and %d leads to %v", angle, speed, first)
			}
			if absolute(angle+speed-sign(speed)*fullTorque) <= greatest && absolute(first.Speed) != max(0, absolute(speed)-fullTorque) {
				t.Errorf("braking the motor with %d and %d leads to %v", angle, speed, first)
			}
			if second := impl.MotorStep(first, impl.BrakeTorque(first), 0); second != motor(first.Angle, 0) {
				t.Errorf("braking the motor with %d and %d twice leads to %v", angle, speed, second)
			}
		}
	}
}

// Promise 75, for invalid motors.
func TestBrakeTorqueOfInvalidMotors(t *testing.T) {
	for _, m := range badMotors() {
		if got := impl.BrakeTorque(m); got != 0 {
			t.Errorf("BrakeTorque(%v) is %d", m, got)
		}
	}
}

func TestAimTorqueExamples(t *testing.T) {
	for _, c := range []struct{ angle, speed, target, stiff, damp, want int }{
		{0, 8, 10, 16, 16, 2}, {0, 0, 10, 4, 16, 2},
		// Exact quotients, of both signs.
		{0, 0, 5, 16, 0, 5}, {0, 0, -5, 16, 0, -5}, {5, 0, 0, 16, 0, -5}, {-5, 0, 0, 16, 0, 5}, {10, 0, 13, 32, 0, 6}, {13, 0, 10, 32, 0, -6},
		{0, 3, 0, 0, 16, -3}, {0, -3, 0, 0, 16, 3}, {0, 5, 10, 8, 16, 0}, {-3, -4, 5, 64, 64, 48},
		// Quotients that are rounded down, of both signs.
		{0, 0, 1, 1, 0, 0}, {0, 0, -1, 1, 0, -1}, {0, 0, 15, 1, 0, 0}, {0, 0, -15, 1, 0, -1}, {0, 0, 16, 1, 0, 1}, {0, 0, -16, 1, 0, -1}, {0, 0, 17, 1, 0, 1}, {0, 0, -17, 1, 0, -2},
		{0, 1, 0, 0, 1, -1}, {0, -1, 0, 0, 1, 0}, {0, 15, 0, 0, 1, -1}, {0, -15, 0, 0, 1, 0}, {0, 17, 0, 0, 1, -2}, {0, -17, 0, 0, 1, 1},
		{7, 0, 10, 7, 0, 1}, {10, 0, 7, 7, 0, -2}, {0, 3, 5, 7, 9, 0}, {0, 4, 5, 7, 9, -1}, {0, -3, -5, 7, 9, -1}, {0, -4, -5, 7, 9, 0},
		// Results at the ends of the range of a torque, next to them, and beyond.
		{0, 0, 100, 16, 0, 100}, {0, 0, 101, 16, 0, 100}, {0, 0, 99, 16, 0, 99}, {0, 0, -100, 16, 0, -100}, {0, 0, -101, 16, 0, -100}, {0, 0, -99, 16, 0, -99},
		{0, 0, 1600, 1, 0, 100}, {0, 0, 1599, 1, 0, 99}, {0, 0, 1601, 1, 0, 100}, {0, 0, 1615, 1, 0, 100}, {0, 0, 1616, 1, 0, 100},
		{0, 0, -1600, 1, 0, -100}, {0, 0, -1599, 1, 0, -100}, {0, 0, -1585, 1, 0, -100}, {0, 0, -1584, 1, 0, -99}, {0, 0, -1601, 1, 0, -100}, {0, 0, -1616, 1, 0, -100},
		{0, 100, 0, 0, 16, -100}, {0, 101, 0, 0, 16, -100}, {0, -101, 0, 0, 16, 100}, {0, 25, 0, 0, 64, -100}, {0, -25, 0, 0, 64, 100}, {0, 24, 0, 0, 64, -96},
		{-10000, -200, 10000, 64, 64, 100}, {10000, 200, -10000, 64, 64, -100}, {-10000, 200, 10000, 64, 64, 100}, {-10000, 0, 10000, 1, 0, 100}, {10000, 0, -10000, 1, 0, -100},
		// The limit applies to the sum, not to its parts.
		{0, 200, 1000, 16, 64, 100}, {0, 200, 1000, 16, 60, 100}, {0, 200, 850, 16, 64, 50}, {0, -200, -850, 16, 64, -50}, {0, 200, 750, 16, 64, -50},
		// At the target without speed, and without stiffness and damping.
		{0, 0, 0, 64, 64, 0}, {77, 0, 77, 16, 16, 0}, {10000, 0, 10000, 64, 64, 0}, {-10000, 0, -10000, 64, 64, 0}, {77, 0, 77, 0, 0, 0},
		{-10000, 200, 10000, 0, 0, 0}, {0, 0, 100, 0, 64, 0}, {5, 200, 5, 64, 0, 0}, {5, 16, 5, 64, 1, -1},
		// Stiff and damp at their greatest, and one beyond each end.
		{0, 0, 1, 64, 0, 4}, {0, 0, 1, 63, 0, 3}, {0, 0, 1, 65, 0, 0}, {0, 0, 100, -1, 0, 0}, {0, 1, 0, 0, 64, -4}, {0, 1, 0, 0, 63, -4}, {0, 1, 0, 0, 65, 0}, {0, 100, 0, 0, -1, 0},
		{0, 0, 1, 64, 65, 0}, {0, 1, 0, 65, 64, 0}, {0, 1, 5, 65, 65, 0}, {0, 100, 100, -1, -1, 0}, {0, 0, 1, 64, -1, 0}, {0, 1, 0, -1, 64, 0},
		// Targets at the ends of their range, and beyond.
		{9990, 0, 10000, 16, 0, 10}, {-9990, 0, -10000, 16, 0, -10}, {9990, 0, 10001, 16, 0, 0}, {-9990, 0, -10001, 16, 0, 0}, {0, 5, 10001, 0, 16, 0},
		// Invalid motors.
		{10001, 0, 9990, 16, 0, 0}, {-10001, 0, -9990, 16, 0, 0}, {0, 201, 0, 0, 16, 0}, {0, -201, 0, 0, 16, 0}, {10001, 201, 0, 16, 16, 0}, {10001, 0, 10001, 16, 16, 0}, {10001, 0, 10002, 16, 16, 0},
	} {
		if got := impl.AimTorque(motor(c.angle, c.speed), c.target, c.stiff, c.damp); got != c.want {
			t.Errorf("AimTorque(%d, %d, %d, %d, %d) is %d, not %d", c.angle, c.speed, c.target, c.stiff, c.damp, got, c.want)
		}
	}
}

func checkAim(t *testing.T, m impl.Motor, target int, stiff int, damp int) {
	got := impl.AimTorque(m, target, stiff, damp)
	if want := wantedAim(m, target, stiff, damp); got != want {
		t.Errorf("AimTorque(%v, %d, %d, %d) is %d, not %d", m, target, stiff, damp, got, want)
	}
	if absolute(got) > fullTorque {
		t.Errorf("AimTorque(%v, %d, %d, %d) is %d, which is no torque", m, target, stiff, damp, got)
	}
}

// Promise 76: the torque is bounded, for all gains and small distances and speeds.
func TestTorquesOfAllGains(t *testing.T) {
	for stiff := 0; stiff <= mostGain; stiff++ {
		for damp := 0; damp <= mostGain; damp++ {
			for _, speed := range []int{-3, -2, -1, 0, 1, 2, 5, 31} {
				for _, target := range []int{-29, -4, -3, -1, 0, 1, 2, 6, 25} {
					checkAim(t, motor(0, speed), target, stiff, damp)
					checkAim(t, motor(-77, speed), target-77, stiff, damp)
				}
			}
		}
	}
}

// Promise 76, for all speeds, and for targets with which the torque is at an end
// of its range, next to it or beyond.
func TestTorquesOfAllSpeeds(t *testing.T) {
	for speed := -fastest; speed <= fastest; speed++ {
		for _, stiff := range gainsAround {
			for _, damp := range gainsAround {
				unit := max(stiff, 1)
				low, high := (damp*speed-gainOf1*fullTorque)/unit, (damp*speed+gainOf1*fullTorque)/unit
				for _, target := range bounds(-greatest, greatest, -greatest, low-1, low, low+1, low+2, 0, high-2, high-1, high, high+1, high+gainOf1, greatest) {
					checkAim(t, motor(0, speed), target, stiff, damp)
				}
			}
		}
	}
}

// Promise 76, for motors and targets at the ends of their ranges and inside them.
func TestTorquesOfFarMotors(t *testing.T) {
	for _, angle := range anglesAround {
		for _, speed := range speedsAround {
			for _, target := range bounds(-greatest, greatest, append([]int{angle - 1, angle + 1, angle - 99, angle + 99}, anglesAround...)...) {
				for _, stiff := range gainsAround {
					for _, damp := range gainsAround {
						checkAim(t, motor(angle, speed), target, stiff, damp)
					}
				}
			}
		}
	}
}

// Promise 76, for all gains.
func TestAtTheTargetThereIsNothingToDo(t *testing.T) {
	for stiff := 0; stiff <= mostGain; stiff++ {
		for damp := 0; damp <= mostGain; damp++ {
			for _, angle := range anglesAround {
				if got := impl.AimTorque(motor(angle, 0), angle, stiff, damp); got != 0 {
					t.Errorf("AimTorque(%d, 0, %d, %d, %d) is %d", angle, angle, stiff, damp, got)
				}
			}
		}
	}
}

// Promise 76. Without speed, more stiffness leads to a torque that is not less in
// the direction of the target.
func TestMoreStiffnessIsNotWeaker(t *testing.T) {
	for _, angle := range anglesAround {
		for target := -greatest; target <= greatest; target += 1 + absolute(target-angle)/20 {
			for _, damp := range []int{0, 1, 16, mostGain} {
				way, before := sign(target-angle), 0
				for stiff := 0; stiff <= mostGain; stiff++ {
					got := impl.AimTorque(motor(angle, 0), target, stiff, damp)
					if got*way < before {
						t.Errorf("AimTorque(%d, 0, %d, %d, %d) is %d, after %d", angle, target, stiff, damp, got, way*before)
					}
					before = got * way
				}
			}
		}
	}
}

// Promise 76, for invalid arguments, also several of them together. The valid
// ones have a torque other than 0.
func TestAimTorqueOfInvalidArguments(t *testing.T) {
	check := func(args []int) {
		if got := impl.AimTorque(motor(args[0], args[1]), args[2], args[3], args[4]); got != 0 {
			t.Errorf("AimTorque(%d, %d, %d, %d, %d) is %d", args[0], args[1], args[2], args[3], args[4], got)
		}
	}
	for _, valid := range [][]int{{0, 5, 77, 16, 16}, {-greatest, -fastest, greatest, mostGain, mostGain}, {greatest, fastest, -greatest, 1, 0}, {7, -fastest, 7, 0, mostGain}} {
		if impl.AimTorque(motor(valid[0], valid[1]), valid[2], valid[3], valid[4]) == 0 {
			t.Errorf("AimTorque is 0 for %v", valid)
		}
		eachSpoiled(valid, aimRanges, check)
	}
	for _, n := range slices.Concat([]int{-1, mostGain + 1, fastest + 1, greatest + 1, -fastest - 1, -greatest - 1}, extremes) {
		check([]int{n, n, n, n, n})
		check([]int{n, -n, -n, n, n})
	}
}
