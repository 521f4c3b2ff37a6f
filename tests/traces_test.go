package tests

import (
	"slices"
	"testing"

	"loop.example/robotcell/impl"
)

// traceRanges are the least and the greatest valid arguments of PressTrace.
var traceRanges = append(slices.Clone(pressRanges), [2]int{0, manyRows})

func (p press) trace(place int, steps int) []int {
	return impl.PressTrace(place, p.wall, p.stiff, p.force, p.speed, steps)
}

// wantedTrace are the places after each of some steps.
func (p press) wantedTrace(place int, steps int) []int {
	var list []int
	for range steps {
		place = p.wantedStep(place)
		list = append(list, place)
	}
	return list
}

func traceOf(args []int) []int {
	return press{args[1], args[2], args[3], args[4]}.trace(args[0], args[5])
}

// eachTrace calls a function with all kinds of presses and places.
func eachTrace(call func(p press, place int)) {
	for _, stiff := range []int{1, 2, 3, 7, 10, 45, 99, stiffest} {
		for _, force := range fewForcesOf(stiff) {
			for _, wall := range append(lastWalls(stiff, force), -greatest, -1, 77, greatest) {
				for _, speed := range []int{1, 2, 7, 33, fastest} {
					p := press{wall, stiff, force, speed}
					rest := p.rest()
					for _, place := range bounds(-greatest, greatest, -greatest, wall-100, wall-1, wall, wall+1, rest-1, rest, rest+1, rest+50, greatest) {
						call(p, place)
					}
				}
			}
		}
	}
}

func TestPressTraceExamples(t *testing.T) {
	for _, c := range []struct {
		place int
		p     press
		want  []int
	}{
		// No steps, and one.
		{0, press{5, 10, 45, 20}, nil}, {12, press{5, 10, 45, 20}, nil}, {greatest, press{-greatest, 1, 1, 1}, nil},
		{0, press{5, 10, 45, 20}, []int{4}}, {12, press{5, 10, 45, 20}, []int{11}}, {9, press{5, 10, 45, 20}, []int{9}},
		// To rest at the force, which is not a multiple of the stiffness, which is
		// one, and which is one more or one less than one.
		{0, press{5, 10, 45, 20}, []int{4, 8, 9, 9, 9}}, {0, press{5, 10, 40, 20}, []int{4, 8, 9, 9}}, {0, press{5, 10, 41, 20}, []int{4, 8, 9, 9}}, {0, press{5, 10, 39, 20}, []int{3, 6, 8, 8}}, {0, press{5, 10, 50, 20}, []int{5, 10, 10, 10}},
		{0, press{10, 3, 20, 200}, []int{6, 12, 16, 16}}, {0, press{10, 3, 21, 200}, []int{7, 14, 17, 17}}, {0, press{10, 3, 22, 200}, []int{7, 14, 17, 17}}, {0, press{10, 3, 20, 5}, []int{5, 10, 15, 16, 16}},
		{-3, press{0, 5, 15, 1}, []int{-2, -1, 0, 1, 2, 3, 3, 3}}, {0, press{300, 1, 150, 200}, []int{150, 300, 450, 450}}, {0, press{300, 1, 250, 200}, []int{200, 400, 550, 550}},
		// To a wall that is stiffer than the force.
		{0, press{4, 100, 99, 200}, []int{1, 2, 3, 4, 4, 4}}, {0, press{4, 100, 100, 200}, []int{1, 2, 3, 4, 5, 5}}, {6, press{4, 100, 1, 200}, []int{5, 4, 4}},
		// From where the force is exceeded.
		{12, press{5, 10, 45, 20}, []int{11, 10, 9, 9, 9}}, {12, press{5, 10, 50, 1}, []int{11, 10, 10}}, {12, press{5, 10, 49, 200}, []int{11, 10, 9, 9}}, {greatest, press{9990, 100, 750, 9}, []int{9999, 9998, 9997, 9997}},
		// At rest from the beginning.
		{9, press{5, 10, 45, 20}, []int{9, 9, 9}}, {10, press{5, 10, 50, 20}, []int{10, 10}}, {-greatest, press{-greatest, 100, 99, 200}, []int{-greatest, -greatest}},
		// To the end of the range.
		{9700, press{greatest, 1, 1000, 200}, []int{9900, 10000, 10000}}, {9600, press{greatest, 1, 1000, 200}, []int{9800, 10000, 10000}}, {9995, press{9990, 10, 1000, 2}, []int{9997, 9999, 10000, 10000}}, {9995, press{9990, 10, 99, 2}, []int{9997, 9999, 9999}}, {9995, press{9990, 10, 100, 2}, []int{9997, 9999, 10000, 10000}},
		{greatest, press{greatest, 1, 1, 1}, []int{10000, 10000}}, {9998, press{greatest, 100, 1, 200}, []int{9999, 10000, 10000}},
	} {
		if got := c.p.trace(c.place, len(c.want)); !slices.Equal(got, c.want) {
			t.Errorf("PressTrace(%d, %v, %d) is %v, not %v", c.place, c.p, len(c.want), got, c.want)
		}
	}
}

// Promise 80: the trace has the place after each step of PressStep.
func TestTracesAreRepeatedSteps(t *testing.T) {
	eachTrace(func(p press, place int) {
		got := p.trace(place, 30)
		if !slices.Equal(got, p.wantedTrace(place, 30)) {
			t.Errorf("PressTrace(%d, %v, 30) is %v, not %v", place, p, got, p.wantedTrace(place, 30))
		}
		for k := range got {
			place = p.step(place)
			if got[k] != place {
				t.Errorf("PressTrace with %v has %d after %d steps, and the steps lead to %d", p, got[k], k+1, place)
			}
		}
	})
}

// longTraces are presses that move a tool for long, and places for it.
func longTraces() ([]press, []int) {
	list := []press{{greatest, 1, 1000, 20}, {0, 100, 99, 1}, {-5000, 7, 48, 200}, {-greatest, 100, 1, 1}, {5000, 3, 1000, 200}, {greatest, 100, 1000, 200}}
	return list, []int{-greatest, -5000, -200, 0, 77, 5500, greatest}
}

// Promise 80, for every number of steps: there is one place for each step, and a
// trace can be continued.
func TestTracesOfEveryLength(t *testing.T) {
	list, places := longTraces()
	for _, p := range list {
		for _, place := range places {
			all, reached := p.wantedTrace(place, manyRows), place
			for steps := 0; steps <= manyRows; steps++ {
				got := p.trace(place, steps)
				if !slices.Equal(got, all[:steps]) {
					t.Fatalf("PressTrace(%d, %v, %d) is %v, not %v", place, p, steps, got, all[:steps])
				}
				if steps > 0 {
					reached = got[steps-1]
				}
				if more := p.trace(reached, manyRows-steps); !slices.Equal(more, all[steps:]) {
					t.Fatalf("PressTrace(%d, %v, %d), which continues a trace, is %v, not %v", reached, p, manyRows-steps, more, all[steps:])
				}
			}
			for _, steps := range outOf(0, manyRows) {
				if got := p.trace(place, steps); len(got) != 0 {
					t.Errorf("PressTrace(%d, %v, %d) has %d places", place, p, steps, len(got))
				}
			}
		}
	}
}

// restOf continues traces until the place does not change any more, and returns it.
func restOf(t *testing.T, p press, place int) int {
	// A way of 2 * MaxCoordinate in steps of 1 needs no more traces than these.
	for range 2*greatest/manyRows + 1 {
		got := p.trace(place, manyRows)
		if len(got) != manyRows {
			t.Fatalf("PressTrace(%d, %v, %d) has %d places", place, p, manyRows, len(got))
		}
		place = got[manyRows-1]
		if place == got[manyRows-2] {
			return place
		}
	}
	t.Errorf("with %v the tool does not come to rest, but is at %d", p, place)
	return place
}

// Promise 80, with the program's own forces.
func TestPressingComesToRestAtTheForce(t *testing.T) {
	eachTrace(func(p press, place int) {
		got := restOf(t, p, place)
		if got != p.rest() {
			t.Errorf("from %d with %v the tool comes to rest at %d, not %d", place, p, got, p.rest())
		}
		if force := impl.ContactForce(got, p.wall, p.stiff); force < 0 || force > p.force {
			t.Errorf("from %d with %v the tool comes to rest at %d, where the force is %d", place, p, got, force)
		}
		if got < greatest && impl.ContactForce(got+1, p.wall, p.stiff) <= p.force {
			t.Errorf("from %d with %v the tool comes to rest at %d, which is not far enough", place, p, got)
		}
		if p.step(got) != got {
			t.Errorf("from %d with %v the tool does not rest at %d", place, p, got)
		}
	})
}

// Promise 80, for every stiffness and many forces, from beside the wall.
func TestPressingComesToRestForEveryStiffness(t *testing.T) {
	for stiff := 1; stiff <= stiffest; stiff++ {
		for _, force := range forcesOf(stiff) {
			p := press{77, stiff, force, 50}
			got := p.trace(67, 60)
			if got[59] != p.rest() || got[58] != p.rest() {
				t.Errorf("from 67 with %v the tool is at %d, not %d", p, got[59], p.rest())
			}
			for k := range got {
				if p.exceeded(got[k]) || k > 0 && got[k] < got[k-1] {
					t.Errorf("from 67 with %v the tool is at %d after %d steps", p, got[k], k+1)
				}
			}
		}
	}
}

// Promises 79 and 80: a tool never turns around before it rests.
func TestTracesDoNotTurnAround(t *testing.T) {
	eachTrace(func(p press, place int) {
		way := sign(p.rest() - place)
		for k, next := range p.trace(place, 50) {
			if sign(next-place) != 0 && sign(next-place) != way || next == place && place != p.rest() {
				t.Errorf("with %v the tool goes from %d to %d in step %d", p, place, next, k+1)
			}
			place = next
		}
	})
}

// Promise 80, for invalid arguments, also two or all of them together. The valid
// ones include those without steps and those of a tool at rest.
func TestPressTraceOfInvalidArguments(t *testing.T) {
	check := func(args []int) {
		if got := traceOf(args); len(got) != 0 {
			t.Errorf("PressTrace of %v has %d places", args, len(got))
		}
	}
	for _, valid := range [][]int{
		{0, 5, 10, 45, 20, 5}, {12, 5, 10, 45, 20, 1}, {9, 5, 10, 45, 20, 3}, {0, 5, 10, 45, 20, 0}, {-greatest, -greatest, 1, 1, 1, manyRows}, {greatest, greatest, stiffest, strongest, fastest, manyRows}, {greatest, -greatest, stiffest, strongest, fastest, 1},
	} {
		if got := traceOf(valid); len(got) != valid[5] {
			t.Errorf("PressTrace of %v has %d places", valid, len(got))
		}
		eachOneOrTwoSpoiled(valid, traceRanges, check)
	}
	for _, n := range append([]int{-1, stiffest + 1, fastest + 1, manyRows + 1, strongest + 1, greatest + 1, -greatest - 1}, extremes...) {
		check([]int{n, n, n, n, n, n})
		check([]int{n, n, n, n, n, 3})
		check([]int{-n, n, n, n, n, 3})
	}
}

// Promise 80. Places of one trace may be overwritten without an effect on another
// one.
func TestTracesShareNoMemory(t *testing.T) {
	list, places := longTraces()
	for _, p := range list {
		for _, place := range places {
			for _, steps := range []int{0, 1, 7, manyRows} {
				checkNumbersMemory(t, "PressTrace", func() []int { return p.trace(place, steps) })
			}
		}
	}
}
