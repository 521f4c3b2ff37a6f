package tests

import (
	"slices"
	"testing"

	"loop.example/robotcell/impl"
)

const fullTorque = impl.MaxTorque

// motorRanges are the least and the greatest valid arguments of MotorStep, the
// motor as its angle and its speed.
var motorRanges = [][2]int{{-greatest, greatest}, {-fastest, fastest}, {-fullTorque, fullTorque}, {0, fullTorque}}

// anglesAround and speedsAround are at the bounds of the range of an angle, or a
// speed, and inside it.
var (
	anglesAround = []int{-greatest, -greatest + 1, -greatest + fastest, -1234, -1, 0, 1, 77, greatest - fastest, greatest - 1, greatest}
	speedsAround = []int{-fastest, -fastest + 1, -101, -100, -99, -7, -2, -1, 0, 1, 2, 7, 99, 100, 101, fastest - 1, fastest}
)

func motor(angle int, speed int) impl.Motor {
	return impl.Motor{Angle: angle, Speed: speed}
}

// opposite is the motor as it is seen from the other side.
func opposite(m impl.Motor) impl.Motor {
	return motor(-m.Angle, -m.Speed)
}

// badMotors have an angle, a speed, or both out of range.
func badMotors() []impl.Motor {
	var list []impl.Motor
	eachSpoiled([]int{0, 0}, motorRanges[:2], func(args []int) { list = append(list, motor(args[0], args[1])) })
	eachSpoiled([]int{greatest, -fastest}, motorRanges[:2], func(args []int) { list = append(list, motor(args[0], args[1])) })
	eachSpoiled([]int{-77, 5}, motorRanges[:2], func(args []int) { list = append(list, motor(args[0], args[1])) })
	return list
}

// wantedStep changes the speed and the angle by one at a time.
func wantedStep(m impl.Motor, torque int, friction int) impl.Motor {
	speed := m.Speed + torque
	for k := 0; k < friction && speed != 0; k++ {
		speed -= sign(speed)
	}
	for absolute(speed) > fastest {
		speed -= sign(speed)
	}
	angle, way := m.Angle, sign(speed)
	for range absolute(speed) {
		if absolute(angle+way) > greatest {
			return motor(angle, 0)
		}
		angle += way
	}
	return motor(angle, speed)
}

// frictionsNear are those that just stop a speed, or just bring it to the limit,
// those beside them, and the least and the greatest ones.
func frictionsNear(speed int) []int {
	n := absolute(speed)
	return bounds(0, fullTorque, 0, 1, 2, 50, fullTorque-1, fullTorque, n-1, n, n+1, n-fastest-1, n-fastest, n-fastest+1)
}

// anglesNear are those from which a speed leads just to the end of the range, or
// just beyond it, and the ends of the range themselves.
func anglesNear(speed int) []int {
	return bounds(-greatest, greatest, -greatest, -greatest+1, 0, greatest-1, greatest,
		greatest-speed-1, greatest-speed, greatest-speed+1, -greatest-speed-1, -greatest-speed, -greatest-speed+1)
}

// eachMotorStep calls a function for all speeds and torques with the frictions
// that matter for them, and, for some speeds and torques, also with the angles
// that matter.
func eachMotorStep(call func(m impl.Motor, torque int, friction int)) {
	for speed := -fastest; speed <= fastest; speed++ {
		for torque := -fullTorque; torque <= fullTorque; torque++ {
			for _, friction := range frictionsNear(speed + torque) {
				call(motor(0, speed), torque, friction)
			}
		}
	}
	for _, speed := range speedsAround {
		for _, torque := range bounds(-fullTorque, fullTorque, append([]int{-speed, -speed - 1, -speed + 1, -50, 50}, speedsAround...)...) {
			for _, friction := range frictionsNear(speed + torque) {
				for _, angle := range anglesNear(wantedStep(motor(0, speed), torque, friction).Speed) {
					call(motor(angle, speed), torque, friction)
				}
			}
		}
	}
}

func TestMaxTorque(t *testing.T) {
	if impl.MaxTorque != 100 {
		t.Fatalf("MaxTorque is %d", impl.MaxTorque)
	}
}

func TestMotorValidExamples(t *testing.T) {
	for _, c := range []struct {
		angle, speed int
		want         bool
	}{
		{0, 0, true}, {1, -1, true}, {-1, 1, true},
		// The ends of both ranges, alone and together.
		{10000, 0, true}, {-10000, 0, true}, {0, 200, true}, {0, -200, true},
		{10000, 200, true}, {10000, -200, true}, {-10000, 200, true}, {-10000, -200, true}, {9999, 199, true},
		// One beyond, alone and together.
		{10001, 0, false}, {-10001, 0, false}, {0, 201, false}, {0, -201, false},
		{10001, 201, false}, {-10001, -201, false}, {10001, -201, false}, {-10001, 201, false},
		{10001, 200, false}, {-10001, -200, false}, {10000, 201, false}, {-10000, -201, false},
		// The speed is not bounded by the range of the angle.
		{201, 200, true}, {200, 201, false}, {0, 10000, false},
	} {
		if got := impl.MotorValid(motor(c.angle, c.speed)); got != c.want {
			t.Errorf("MotorValid(%d, %d) is %v", c.angle, c.speed, got)
		}
	}
}

// Promise 73, for all angles with some speeds, and all speeds with some angles.
func TestMotorsAreBounded(t *testing.T) {
	check := func(angle int, speed int) {
		want := absolute(angle) <= greatest && absolute(speed) <= fastest
		for _, m := range []impl.Motor{motor(angle, speed), motor(-angle, -speed), motor(angle, -speed), motor(-angle, speed)} {
			if got := impl.MotorValid(m); got != want {
				t.Errorf("MotorValid(%v) is %v", m, got)
			}
		}
	}
	for angle := 0; angle <= greatest+300; angle++ {
		for _, speed := range append([]int{fastest + 1, fastest + 2, 1000}, speedsAround...) {
			check(angle, speed)
		}
	}
	for speed := 0; speed <= fastest+300; speed++ {
		for _, angle := range append([]int{greatest + 1, greatest + 2, 1000000}, anglesAround...) {
			check(angle, speed)
		}
	}
}

// Promise 73, for invalid motors, with the least and the greatest numbers.
func TestMotorsBeyondTheirBounds(t *testing.T) {
	for _, m := range badMotors() {
		if impl.MotorValid(m) {
			t.Errorf("MotorValid(%v) is true", m)
		}
	}
	for _, n := range extremes {
		for _, other := range extremes {
			if impl.MotorValid(motor(n, other)) {
				t.Errorf("MotorValid(%d, %d) is true", n, other)
			}
		}
	}
}

// motorSteps are examples of steps. The same steps are possible in the opposite
// direction.
var motorSteps = []struct {
	angle, speed, torque, friction int
	wantedAngle, wantedSpeed       int
}{
	// A torque that speeds the motor up, that slows it down, that stops it, and
	// that turns its direction.
	{0, 5, 3, 0, 8, 8}, {10, 5, 3, 2, 16, 6}, {0, 0, 100, 0, 100, 100}, {0, 1, 100, 1, 100, 100},
	{0, 5, -3, 0, 2, 2}, {0, 50, -20, 7, 23, 23}, {0, 200, -100, 0, 100, 100}, {0, 200, -100, 100, 0, 0},
	{7, 5, -5, 0, 7, 0}, {7, 100, -100, 0, 7, 0}, {7, 100, -100, 100, 7, 0},
	{0, 5, -8, 0, -3, -3}, {0, 5, -8, 2, -1, -1}, {0, 1, -100, 0, -99, -99}, {0, 99, -100, 0, -1, -1},
	// Friction less than, equal to and greater than the speed that it meets.
	{0, 5, 0, 4, 1, 1}, {0, 5, 0, 5, 0, 0}, {0, 5, 0, 6, 0, 0}, {0, 5, 0, 100, 0, 0},
	{0, 5, 3, 7, 1, 1}, {0, 5, 3, 8, 0, 0}, {0, 5, 3, 9, 0, 0}, {0, 5, -3, 1, 1, 1}, {0, 5, -3, 2, 0, 0}, {0, 5, -3, 3, 0, 0},
	{0, 5, -8, 3, 0, 0}, {0, 5, -8, 4, 0, 0}, {0, 5, -8, 100, 0, 0},
	{3, 1, 0, 0, 4, 1}, {3, 1, 0, 1, 3, 0}, {3, 1, 0, 2, 3, 0}, {3, 2, 0, 1, 4, 1}, {3, 2, 0, 2, 3, 0}, {3, 2, 0, 3, 3, 0},
	{3, 100, 0, 99, 4, 1}, {3, 100, 0, 100, 3, 0}, {3, 101, 0, 100, 4, 1}, {3, 99, 0, 100, 3, 0},
	// A torque from rest, which friction takes away in part or as a whole.
	{3, 0, 5, 4, 4, 1}, {3, 0, 5, 5, 3, 0}, {3, 0, 5, 6, 3, 0}, {3, 0, 1, 1, 3, 0}, {3, 0, 1, 0, 4, 1}, {3, 0, 100, 99, 4, 1}, {3, 0, 100, 100, 3, 0},
	// Friction on a motor that the torque alone has stopped, or that rests.
	{3, 5, -5, 1, 3, 0}, {3, 5, -5, 100, 3, 0}, {3, 0, 0, 1, 3, 0}, {3, 0, 0, 100, 3, 0}, {3, 0, 0, 0, 3, 0}, {0, 0, 0, 50, 0, 0},
	// Without torque: without friction, with the greatest one, and in between.
	{0, 150, 0, 0, 150, 150}, {0, 150, 0, 100, 50, 50}, {0, 200, 0, 1, 199, 199}, {-50, 150, 0, 0, 100, 150}, {0, 200, 0, 0, 200, 200},
	// A speed that comes to MaxSpeed, that would pass it, and that friction keeps
	// from passing it. Friction comes first.
	{0, 150, 50, 0, 200, 200}, {0, 150, 49, 0, 199, 199}, {0, 150, 51, 0, 200, 200}, {0, 200, 100, 0, 200, 200}, {0, 200, 1, 0, 200, 200},
	{0, 200, 100, 50, 200, 200}, {0, 200, 100, 99, 200, 200}, {0, 200, 100, 100, 200, 200}, {0, 200, 50, 51, 199, 199}, {0, 200, 50, 100, 150, 150}, {0, 199, 100, 100, 199, 199}, {0, 150, 60, 9, 200, 200}, {0, 150, 60, 11, 199, 199},
	// The angle comes just to the end of its range, and the motor keeps its speed.
	{9995, 5, 0, 0, 10000, 5}, {9800, 200, 0, 0, 10000, 200}, {9900, 0, 100, 0, 10000, 100}, {9999, 0, 1, 0, 10000, 1}, {9999, 2, 0, 1, 10000, 1}, {9990, 5, 8, 3, 10000, 10}, {9800, 200, 100, 7, 10000, 200},
	{10000, 0, 0, 0, 10000, 0}, {10000, 5, -5, 0, 10000, 0}, {10000, 5, 0, 5, 10000, 0}, {10000, 5, 0, 9, 10000, 0}, {10000, 0, 50, 50, 10000, 0},
	// The angle would pass the end of its range, and the motor stops.
	{9996, 5, 0, 0, 10000, 0}, {9801, 200, 0, 0, 10000, 0}, {9999, 5, 0, 0, 10000, 0}, {9901, 0, 100, 0, 10000, 0}, {9999, 0, 2, 0, 10000, 0},
	{10000, 1, 0, 0, 10000, 0}, {10000, 200, 100, 0, 10000, 0}, {10000, 0, 1, 0, 10000, 0}, {10000, 5, 0, 4, 10000, 0}, {10000, -5, 6, 0, 10000, 0}, {9950, 200, -100, 0, 10000, 0},
	// The motor leaves the end of its range.
	{10000, -1, 0, 0, 9999, -1}, {10000, -200, 0, 0, 9800, -200}, {10000, 5, -8, 0, 9997, -3}, {10000, 0, -100, 30, 9930, -70},
}

func TestMotorStepExamples(t *testing.T) {
	for _, c := range motorSteps {
		m, want := motor(c.angle, c.speed), motor(c.wantedAngle, c.wantedSpeed)
		if got := impl.MotorStep(m, c.torque, c.friction); got != want {
			t.Errorf("MotorStep(%v, %d, %d) is %v, not %v", m, c.torque, c.friction, got, want)
		}
		if got := impl.MotorStep(opposite(m), -c.torque, c.friction); got != opposite(want) {
			t.Errorf("MotorStep(%v, %d, %d) is %v, not %v", opposite(m), -c.torque, c.friction, got, opposite(want))
		}
	}
}

// Promise 74: the motor is valid, and the step is symmetric.
func TestMotorStepsAreSymmetric(t *testing.T) {
	eachMotorStep(func(m impl.Motor, torque int, friction int) {
		got := impl.MotorStep(m, torque, friction)
		if want := wantedStep(m, torque, friction); got != want {
			t.Errorf("MotorStep(%v, %d, %d) is %v, not %v", m, torque, friction, got, want)
		}
		if !impl.MotorValid(got) || absolute(got.Angle) > greatest || absolute(got.Speed) > fastest {
			t.Errorf("MotorStep(%v, %d, %d) is %v, which is not valid", m, torque, friction, got)
		}
		if other := impl.MotorStep(opposite(m), -torque, friction); other != opposite(got) {
			t.Errorf("MotorStep(%v, %d, %d) is %v, not %v", opposite(m), -torque, friction, other, opposite(got))
		}
	})
}

// Promise 74, for all speeds and frictions: without torque, the speed neither
// changes its sign nor becomes greater.
func TestFrictionNeverAccelerates(t *testing.T) {
	for speed := -fastest; speed <= fastest; speed++ {
		for friction := 0; friction <= fullTorque; friction++ {
			for _, angle := range anglesNear(speed - sign(speed)*friction) {
				got := impl.MotorStep(motor(angle, speed), 0, friction)
				if got.Speed*speed < 0 || absolute(got.Speed) > absolute(speed) {
					t.Errorf("MotorStep(%d, %d, 0, %d) has the speed %d", angle, speed, friction, got.Speed)
				}
				if want := wantedStep(motor(angle, speed), 0, friction); got != want {
					t.Errorf("MotorStep(%d, %d, 0, %d) is %v, not %v", angle, speed, friction, got, want)
				}
			}
		}
	}
}

// Promise 74. More friction never leaves more of the speed, whatever the torque,
// and as much of it as there is speed leaves nothing.
func TestMoreFrictionLeavesLessSpeed(t *testing.T) {
	for _, speed := range speedsAround {
		for torque := -fullTorque; torque <= fullTorque; torque++ {
			before := absolute(impl.MotorStep(motor(0, speed), torque, 0).Speed)
			for friction := 0; friction <= fullTorque; friction++ {
				got := impl.MotorStep(motor(0, speed), torque, friction)
				if absolute(got.Speed) > before || got.Speed*(speed+torque) < 0 {
					t.Errorf("MotorStep(0, %d, %d, %d) has the speed %d, after %d", speed, torque, friction, got.Speed, before)
				}
				if friction >= absolute(speed+torque) && got != motor(0, 0) {
					t.Errorf("MotorStep(0, %d, %d, %d) is %v", speed, torque, friction, got)
				}
				before = absolute(got.Speed)
			}
		}
	}
}

// Promise 74, for invalid arguments, also several of them together. The valid
// ones have a step that is not the zero value.
func TestMotorStepOfInvalidArguments(t *testing.T) {
	check := func(args []int) {
		if got := impl.MotorStep(motor(args[0], args[1]), args[2], args[3]); got != motor(0, 0) {
			t.Errorf("MotorStep(%d, %d, %d, %d) is %v", args[0], args[1], args[2], args[3], got)
		}
	}
	for _, valid := range [][]int{
		{0, 5, 3, 2}, {77, 0, 0, 0}, {77, 0, 0, fullTorque}, {greatest, fastest, fullTorque, fullTorque}, {-greatest, -fastest, -fullTorque, 0}, {greatest, 0, 0, 0}, {-greatest, 0, 0, fullTorque},
	} {
		eachSpoiled(valid, motorRanges, check)
	}
	for _, n := range append([]int{-1, fullTorque + 1, fastest + 1, greatest + 1, -fullTorque - 1, -fastest - 1, -greatest - 1}, extremes...) {
		check([]int{n, n, n, n})
	}
}

// speedAfter is the speed of a motor after some steps without torque.
func speedAfter(m impl.Motor, friction int, steps int) int {
	for range steps {
		m = impl.MotorStep(m, 0, friction)
	}
	return m.Speed
}

// Promise 132, for all speeds and frictions.
func TestFrictionBringsMotorsToRest(t *testing.T) {
	for speed := -fastest; speed <= fastest; speed++ {
		for friction := 1; friction <= fullTorque; friction++ {
			for _, angle := range []int{-greatest, -greatest + 99, 0, 5000, greatest - 99, greatest} {
				if got := speedAfter(motor(angle, speed), friction, absolute(speed)); got != 0 {
					t.Errorf("after %d steps with the friction %d the motor with the angle %d and the speed %d has the speed %d", absolute(speed), friction, angle, speed, got)
				}
			}
		}
	}
}

// Promise 132. With the friction 1, and without the ends of the range in the way,
// every step takes 1 of the speed, and without friction none does.
func TestTheLeastFrictionNeedsAllSteps(t *testing.T) {
	for speed := -140; speed <= 140; speed++ {
		for steps := range absolute(speed) + 1 {
			if got := speedAfter(motor(0, speed), 1, steps); got != speed-sign(speed)*steps {
				t.Errorf("after %d steps with the friction 1 the motor with the speed %d has the speed %d", steps, speed, got)
			}
		}
		if got := speedAfter(motor(-sign(speed)*greatest, speed), 0, absolute(speed)); got != speed {
			t.Errorf("without friction the motor with the speed %d has the speed %d", speed, got)
		}
	}
}

// Promise 132. Away from the ends of the range, a motor covers the distance in
// which a motion with this deceleration stops.
func TestMotorsStopInTheStopDistance(t *testing.T) {
	for speed := 0; speed <= 130; speed++ {
		for friction := 1; friction <= impl.MaxRise; friction++ {
			m := motor(-greatest, speed)
			for range speed {
				m = impl.MotorStep(m, 0, friction)
			}
			if want := motor(-greatest+stopByTerms(speed, friction), 0); m != want {
				t.Errorf("with the friction %d the motor with the speed %d ends as %v, not %v", friction, speed, m, want)
			}
		}
	}
}

// Promise 132. A motor at rest stays where it is, as long as the torque is not
// greater than the friction.
func TestFrictionHoldsMotorsAtRest(t *testing.T) {
	for friction := 0; friction <= fullTorque; friction++ {
		for torque := -friction; torque <= friction; torque++ {
			for _, angle := range slices.Concat(anglesAround, []int{-3, 3}) {
				if got := impl.MotorStep(motor(angle, 0), torque, friction); got != motor(angle, 0) {
					t.Errorf("MotorStep(%d, 0, %d, %d) is %v", angle, torque, friction, got)
				}
			}
		}
	}
}
