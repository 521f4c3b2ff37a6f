package tests

import (
	"slices"
	"testing"

	"loop.example/robotcell/impl"
)

// run is what controls a motor: RunMotor's arguments without motor and steps.
type run struct {
	target   int
	stiff    int
	damp     int
	friction int
}

func (r run) angles(m impl.Motor, steps int) []int {
	return impl.RunMotor(m, r.target, r.stiff, r.damp, r.friction, steps)
}

// motors are a motor and those after each of some steps.
func (r run) motors(m impl.Motor, steps int) []impl.Motor {
	list := []impl.Motor{m}
	for range steps {
		m = wantedStep(m, wantedAim(m, r.target, r.stiff, r.damp), r.friction)
		list = append(list, m)
	}
	return list
}

// runRanges are the least and the greatest valid arguments of RunMotor, the motor
// as its angle and its speed.
var runRanges = [][2]int{
	{-greatest, greatest}, {-fastest, fastest}, {-greatest, greatest}, {0, mostGain}, {0, mostGain}, {0, fullTorque}, {0, manyRows},
}

func runOf(args []int) []int {
	return run{args[2], args[3], args[4], args[5]}.angles(motor(args[0], args[1]), args[6])
}

// eachRun calls a function for controllers that are weak and strong, with all
// kinds of motors.
func eachRun(call func(r run, m impl.Motor)) {
	for _, target := range []int{-greatest, -1234, 0, 7, greatest - 1, greatest} {
		for _, stiff := range []int{0, 1, 7, 16, mostGain} {
			for _, damp := range []int{0, 1, 16, 40, mostGain} {
				for _, friction := range []int{0, 1, 5, 50, fullTorque} {
					for _, speed := range []int{-fastest, -7, 0, 1, 150, fastest} {
						for _, angle := range bounds(-greatest, greatest, -greatest, target-99, target, target+1, 100, greatest) {
							call(run{target, stiff, damp, friction}, motor(angle, speed))
						}
					}
				}
			}
		}
	}
}

func TestRunMotorExamples(t *testing.T) {
	for _, c := range []struct {
		m    impl.Motor
		r    run
		want []int
	}{
		// No steps.
		{motor(0, 0), run{10, 4, 16, 0}, nil}, {motor(greatest, fastest), run{-greatest, mostGain, mostGain, fullTorque}, nil},
		// One step, which includes its own torque and friction.
		{motor(0, 0), run{10, 16, 0, 0}, []int{10}}, {motor(0, 0), run{10, 16, 0, 3}, []int{7}}, {motor(0, 5), run{10, 16, 16, 3}, []int{7}}, {motor(0, 5), run{0, 0, 0, 5}, []int{0}},
		// A damped motor, which comes to rest before its target, where 12/16 is
		// rounded down to no torque.
		{motor(0, 0), run{10, 4, 16, 0}, []int{2, 4, 5, 6, 7, 7, 7}},
		// Beyond the target and back, slowed by friction alone; and a motor that
		// rests beside its target, where the torque is not greater than the friction.
		{motor(0, 0), run{100, 16, 0, 10}, []int{90, 180, 180, 110, 40, 40, 90, 140, 140, 110, 80, 80, 90, 100, 100, 100}},
		{motor(0, 0), run{10, 16, 0, 10}, []int{0, 0, 0}}, {motor(0, 0), run{-10, 16, 0, 10}, []int{0, 0}}, {motor(0, 0), run{11, 16, 0, 10}, []int{1, 2, 2, 2}},
		// Without stiffness, damping and friction the motor runs on, and friction
		// or damping stop it.
		{motor(-5, 3), run{100, 0, 0, 0}, []int{-2, 1, 4, 7}}, {motor(-5, 3), run{100, 0, 0, 1}, []int{-3, -2, -2, -2}}, {motor(0, 8), run{100, 0, 8, 0}, []int{4, 6, 7, 7, 7}}, {motor(0, -8), run{100, 0, 8, 0}, []int{-4, -6, -7, -8, -9}},
		// At its target at rest, and with a speed.
		{motor(7, 0), run{7, mostGain, mostGain, 0}, []int{7, 7, 7}}, {motor(-greatest, 0), run{-greatest, mostGain, 0, fullTorque}, []int{-greatest, -greatest}}, {motor(7, 5), run{7, 16, 16, 0}, []int{7, 7}}, {motor(7, 5), run{7, 0, 0, 0}, []int{12, 17}},
		// To the end of the range: just there, and beyond it, from where the motor
		// comes back without speed.
		{motor(9800, 200), run{greatest, 0, 0, 0}, []int{10000, 10000}}, {motor(9801, 200), run{0, 0, 0, 0}, []int{10000, 10000}}, {motor(9950, 90), run{9990, 16, 0, 0}, []int{10000, 9990, 9980, 9980, 9990, 10000}}, {motor(-9950, -200), run{0, 0, 0, 100}, []int{-10000, -10000}},
		{motor(9750, 200), run{9000, 16, 0, 0}, []int{9850, 9850, 9750, 9550, 9350, 9150, 8950, 8800, 8750}},
		{motor(9950, 200), run{9000, 16, 0, 0}, []int{10000, 9900, 9700, 9500, 9300, 9100, 8900, 8800, 8800}},
	} {
		if got := c.r.angles(c.m, len(c.want)); !slices.Equal(got, c.want) {
			t.Errorf("RunMotor(%v, %v, %d) is %v, not %v", c.m, c.r, len(c.want), got, c.want)
		}
	}
}

// Promise 77: there is one angle for every step, which MotorStep with AimTorque
// leads to.
func TestRunsAreRepeatedSteps(t *testing.T) {
	eachRun(func(r run, m impl.Motor) {
		got := r.angles(m, 30)
		if len(got) != 30 {
			t.Fatalf("RunMotor(%v, %v, 30) has %d angles", m, r, len(got))
		}
		for k, want := range r.motors(m, 30)[1:] {
			if got[k] != want.Angle {
				t.Errorf("RunMotor(%v, %v, 30) has %d after %d steps, not %d", m, r, got[k], k+1, want.Angle)
			}
		}
		for k := range got {
			m = impl.MotorStep(m, impl.AimTorque(m, r.target, r.stiff, r.damp), r.friction)
			if got[k] != m.Angle {
				t.Errorf("RunMotor with %v has %d after %d steps, and the steps lead to %d", r, got[k], k+1, m.Angle)
			}
		}
	})
}

// longRuns are a few controllers, and motors that they keep moving for long.
func longRuns() ([]run, []impl.Motor) {
	runs := []run{{0, 1, 0, 0}, {500, 16, 4, 1}, {-greatest, 3, 20, 2}, {greatest, mostGain, mostGain, 50}, {77, 16, 0, 10}, {0, 0, 0, 0}}
	return runs, []impl.Motor{motor(0, 0), motor(-5000, 3), motor(greatest, -fastest), motor(-greatest, 0), motor(300, 150)}
}

// Promise 77, for every number of steps.
func TestRunsHaveOneAnglePerStep(t *testing.T) {
	runs, motors := longRuns()
	for _, r := range runs {
		for _, m := range motors {
			all := r.motors(m, manyRows)
			for steps := 0; steps <= manyRows; steps++ {
				got := r.angles(m, steps)
				if len(got) != steps {
					t.Fatalf("RunMotor(%v, %v, %d) has %d angles", m, r, steps, len(got))
				}
				for k := range got {
					if got[k] != all[k+1].Angle {
						t.Errorf("RunMotor(%v, %v, %d) has %d after %d steps, not %d", m, r, steps, got[k], k+1, all[k+1].Angle)
					}
				}
			}
		}
	}
}

// Promise 77. A run is the beginning of it, followed by a run of the motor that is
// reached.
func TestRunsCanBeContinued(t *testing.T) {
	runs, motors := longRuns()
	for _, r := range runs {
		for _, m := range motors {
			want, middle := r.angles(m, manyRows), m
			for steps := 0; steps <= manyRows; steps++ {
				got := append(r.angles(m, steps), r.angles(middle, manyRows-steps)...)
				if !slices.Equal(got, want) {
					t.Errorf("RunMotor(%v, %v, %d) continued is not the whole run", m, r, steps)
				}
				middle = impl.MotorStep(middle, impl.AimTorque(middle, r.target, r.stiff, r.damp), r.friction)
			}
		}
	}
}

// Promise 77, for all gains.
func TestMotorsStayAtTheirTarget(t *testing.T) {
	for stiff := 0; stiff <= mostGain; stiff++ {
		for damp := 0; damp <= mostGain; damp++ {
			for _, friction := range []int{0, 1, 50, fullTorque} {
				for _, target := range []int{-greatest, -7, 0, 5000, greatest} {
					got := run{target, stiff, damp, friction}.angles(motor(target, 0), 5)
					if !slices.Equal(got, repeated(target, 5)) {
						t.Errorf("RunMotor with %d, %d, %d and %d at rest at its target is %v", target, stiff, damp, friction, got)
					}
				}
			}
		}
	}
	if got := (run{7, 16, 16, 0}).angles(motor(7, 0), manyRows); !slices.Equal(got, repeated(7, manyRows)) {
		t.Errorf("RunMotor of a motor at rest at its target is %v", got)
	}
}

// Promise 77. A motor that is driven against the end of its range stays there,
// without speed, and comes back when it has a target elsewhere.
func TestMotorsStopAtTheEndOfTheirRange(t *testing.T) {
	for _, angle := range []int{9000, 9799, 9800, 9801, 9999, greatest} {
		for _, end := range []int{-greatest, greatest} {
			way := sign(end)
			got := run{end, mostGain, 0, 0}.angles(motor(way*angle, way*fastest), 50)
			if !slices.Equal(got[40:], repeated(end, 10)) {
				t.Errorf("the motor with %d and %d ends at %v", way*angle, way*fastest, got[40:])
			}
			back := run{end - way*50, 16, 0, 0}.angles(motor(end, way*fastest), 3)
			if !slices.Equal(back, []int{end, end - way*50, end - way*100}) {
				t.Errorf("the motor at the end %d comes back with %v", end, back)
			}
		}
	}
}

// eachOneOrTwoSpoiled calls a function with all lists in which one or two of some
// valid arguments are replaced by numbers out of their range.
func eachOneOrTwoSpoiled(valid []int, ranges [][2]int, call func(args []int)) {
	for first := range valid {
		for second := first; second < len(valid); second++ {
			for _, n := range outOf(ranges[first][0], ranges[first][1]) {
				for _, other := range outOf(ranges[second][0], ranges[second][1]) {
					args := slices.Clone(valid)
					args[first], args[second] = n, other
					call(args)
				}
			}
		}
	}
}

// Promise 77, for invalid arguments, also two or all of them together. The valid
// ones include those without steps.
func TestRunMotorOfInvalidArguments(t *testing.T) {
	check := func(args []int) {
		if got := runOf(args); len(got) != 0 {
			t.Errorf("RunMotor of %v has %d angles", args, len(got))
		}
	}
	for _, valid := range [][]int{
		{0, 0, 10, 4, 16, 0, 7}, {7, 0, 7, 16, 16, 1, 1}, {0, 5, 0, 0, 0, 0, 0}, {-greatest, -fastest, -greatest, 0, 0, 0, manyRows}, {greatest, fastest, greatest, mostGain, mostGain, fullTorque, manyRows},
	} {
		if got := runOf(valid); len(got) != valid[6] {
			t.Errorf("RunMotor of %v has %d angles", valid, len(got))
		}
		eachOneOrTwoSpoiled(valid, runRanges, check)
	}
	for _, n := range append([]int{-1, mostGain + 1, fullTorque + 1, manyRows + 1, greatest + 1, -greatest - 1}, extremes...) {
		check([]int{n, n, n, n, n, n, n})
		check([]int{n, n, n, n, n, n, 3})
	}
}

// checkNumbersMemory overwrites a result together with its spare capacity.
func checkNumbersMemory(t *testing.T, name string, numbers func() []int) {
	kept, changed := numbers(), numbers()
	want := slices.Clone(kept)
	fill(whole(changed), 77777)
	if !slices.Equal(kept, want) || !slices.Equal(numbers(), want) {
		t.Errorf("two results of %s with %d numbers share memory", name, len(want))
	}
	fill(whole(kept), 88888)
	if !isFilled(whole(changed), 77777) {
		t.Errorf("two results of %s with %d numbers share memory", name, len(want))
	}
}

// Promise 77. Angles of one run may be overwritten without an effect on another
// one.
func TestRunsShareNoMemory(t *testing.T) {
	runs, motors := longRuns()
	for _, r := range runs {
		for _, m := range motors {
			for _, steps := range []int{0, 1, 7, manyRows} {
				checkNumbersMemory(t, "RunMotor", func() []int { return r.angles(m, steps) })
			}
		}
	}
}
