package tests

import (
	"math"
	"slices"
	"testing"

	"loop.example/robotcell/impl"
)

const (
	longest = impl.MaxDistance
	fastest = impl.MaxSpeed
	steep   = impl.MaxRise
)

// stopByTerms adds the terms that the chapter names.
func stopByTerms(speed int, rise int) int {
	sum := 0
	for term := speed - rise; term > 0; term -= rise {
		sum += term
	}
	return sum
}

// wantedDrive is, for expected results with one rise: for every speed the
// distance that a step with it and stopping from it need, and for every
// distance the greatest speed that needs no more.
type wantedDrive struct {
	rise  int
	needs []int
	safe  []int
}

func wantedDriveOf(rise int) wantedDrive {
	w := wantedDrive{rise, make([]int, fastest+1), make([]int, longest+1)}
	for v := range w.needs {
		w.needs[v] = v + stopByTerms(v, rise)
	}
	for distance := range w.safe {
		for v, need := range w.needs {
			if need <= distance {
				w.safe[distance] = v
			}
		}
	}
	return w
}

// next tries all speeds.
func (w wantedDrive) next(speed int, distance int, top int) int {
	best := 0
	for v := 0; v <= top; v++ {
		if v <= speed+w.rise && w.needs[v] <= distance {
			best = v
		}
	}
	return best
}

func (w wantedDrive) profile(distance int, top int) []int {
	var list []int
	for speed := 0; distance > 0; distance -= speed {
		speed = min(top, speed+w.rise, w.safe[distance])
		list = append(list, speed)
	}
	return list
}

// reachAndLeave is the distance in which the limit can be reached and left again.
func reachAndLeave(top int, rise int) int {
	sum := top + stopByTerms(top, rise)
	for speed := rise; speed < top; speed += rise {
		sum += speed
	}
	return sum
}

// eachMotion calls a function with every rise and some limits, for all
// distances that are too short for the limit and as many again, and for some
// longer ones.
func eachMotion(call func(w wantedDrive, distance int, top int)) {
	for rise := 1; rise <= steep; rise++ {
		w := wantedDriveOf(rise)
		for _, top := range []int{1, 2, 3, 10, rise, rise + 1, 99, fastest - 1, fastest} {
			end := min(2*reachAndLeave(top, rise), longest)
			for distance := 0; distance <= end; distance++ {
				call(w, distance, top)
			}
			for _, distance := range []int{1000, 2500, 3333, longest - 1, longest} {
				call(w, max(distance, end), top)
			}
		}
	}
}

// isMotion takes the rest before and after a motion as speeds of 0.
func isMotion(list []int, top int, rise int) bool {
	for _, speed := range list {
		if speed < 1 || speed > top {
			return false
		}
	}
	padded := slices.Concat([]int{0}, list, []int{0})
	for k := 1; k < len(padded); k++ {
		if absolute(padded[k]-padded[k-1]) > rise {
			return false
		}
	}
	return true
}

func sumOf(list []int) int {
	sum := 0
	for _, n := range list {
		sum += n
	}
	return sum
}

// repeated is a list with one number n times.
func repeated(value int, n int) []int {
	return slices.Repeat([]int{value}, n)
}

// outOf are numbers out of a range: next to its bounds and the ends of int.
func outOf(low int, high int) []int {
	return append([]int{low - 1, low - 200, high + 1, high + 200}, extremes...)
}

func TestProfileConstants(t *testing.T) {
	if impl.MaxDistance != 5000 || impl.MaxSpeed != 200 || impl.MaxRise != 50 {
		t.Fatalf("MaxDistance, MaxSpeed and MaxRise are %d, %d and %d", impl.MaxDistance, impl.MaxSpeed, impl.MaxRise)
	}
}

func TestStopDistanceExamples(t *testing.T) {
	for _, c := range []struct{ speed, rise, want int }{
		{7, 2, 9}, {2, 2, 0},
		{0, 1, 0}, {1, 1, 0}, {2, 1, 1}, {3, 1, 3}, {4, 1, 6}, {fastest, 1, 19900},
		{0, 50, 0}, {1, 50, 0}, {49, 50, 0}, {50, 50, 0}, {51, 50, 1}, {99, 50, 49},
		{100, 50, 50}, {101, 50, 52}, {150, 50, 150}, {151, 50, 153}, {fastest, 50, 300},
		{6, 7, 0}, {7, 7, 0}, {8, 7, 1}, {14, 7, 7}, {15, 7, 9}, {21, 7, 21}, {22, 7, 24},
		{199, 49, 306}, {fastest, 49, 310},
	} {
		if got := impl.StopDistance(c.speed, c.rise); got != c.want {
			t.Errorf("StopDistance(%d, %d) is %d, not %d", c.speed, c.rise, got, c.want)
		}
	}
}

// Promise 37, for all arguments in range.
func TestStoppingTakesLongerAtHigherSpeeds(t *testing.T) {
	for rise := 1; rise <= steep; rise++ {
		for speed := 0; speed <= fastest; speed++ {
			got := impl.StopDistance(speed, rise)
			if want := stopByTerms(speed, rise); got != want {
				t.Errorf("StopDistance(%d, %d) is %d, not %d", speed, rise, got, want)
			}
			if speed > 0 && got < impl.StopDistance(speed-1, rise) {
				t.Errorf("StopDistance(%d, %d) is less than with the speed before", speed, rise)
			}
			if rise > 1 && got > impl.StopDistance(speed, rise-1) {
				t.Errorf("StopDistance(%d, %d) is greater than with the rise before", speed, rise)
			}
			lower := max(0, speed-rise)
			if got != lower+impl.StopDistance(lower, rise) {
				t.Errorf("StopDistance(%d, %d) is %d, not that of %d and %d", speed, rise, got, lower, lower)
			}
		}
	}
}

// Promise 37, for invalid arguments.
func TestStopDistanceOfInvalidArguments(t *testing.T) {
	check := func(speed int, rise int) {
		if got := impl.StopDistance(speed, rise); got != -1 {
			t.Errorf("StopDistance(%d, %d) is %d", speed, rise, got)
		}
	}
	for _, speed := range outOf(0, fastest) {
		for _, rise := range append(outOf(1, steep), 1, 2, steep-1, steep) {
			check(speed, rise)
		}
	}
	for _, rise := range outOf(1, steep) {
		for speed := 0; speed <= fastest; speed++ {
			check(speed, rise)
		}
	}
}

func TestNextSpeedExamples(t *testing.T) {
	for _, c := range []struct{ speed, distance, top, rise, want int }{
		{0, 10, 3, 1, 1},
		// The sum of speed and rise is below, at and above the limit.
		{3, 5000, 10, 6, 9}, {4, 5000, 10, 6, 10}, {5, 5000, 10, 6, 10}, {10, 5000, 10, 6, 10},
		{fastest, 5000, fastest, steep, fastest}, {fastest - steep, 5000, fastest, steep, fastest},
		// A speed above the limit.
		{11, 5000, 10, 6, 10}, {fastest, 5000, 3, 1, 3}, {fastest, 5000, 1, steep, 1}, {fastest, 2, 3, 1, 1},
		// Nothing but rest is possible within the distance 0.
		{0, 0, 1, 1, 0}, {0, 0, fastest, steep, 0}, {fastest, 0, fastest, steep, 0}, {fastest, 0, 1, 1, 0},
		// Stopping within the distance is not possible from the speed.
		{fastest, 1, fastest, 1, 1}, {fastest, 299, fastest, steep, 149}, {10, 5, 10, 2, 3}, {10, 3, 10, 1, 2},
		// The distance is just enough, and one less, for 1, 2 and 3 with rise 1.
		{5, 1, 9, 1, 1}, {5, 2, 9, 1, 1}, {5, 3, 9, 1, 2}, {5, 5, 9, 1, 2}, {5, 6, 9, 1, 3},
		// With a rise that is not less, the speed needs no more than itself.
		{0, 49, fastest, steep, 49}, {0, 50, fastest, steep, 50}, {0, 51, fastest, steep, 50},
		{50, 51, fastest, steep, 50}, {50, 52, fastest, steep, 51}, {50, 149, fastest, steep, 99}, {50, 150, fastest, steep, 100},
		{fastest, 499, fastest, steep, 199}, {fastest, 500, fastest, steep, 200},
		// Even the longest distance is too short for the greatest speeds: 99*100/2 is 4950.
		{fastest, 5000, fastest, 1, 99}, {fastest, 4950, fastest, 1, 99}, {fastest, 4949, fastest, 1, 98},
	} {
		if got := impl.NextSpeed(c.speed, c.distance, c.top, c.rise); got != c.want {
			t.Errorf("NextSpeed(%d, %d, %d, %d) is %d, not %d", c.speed, c.distance, c.top, c.rise, got, c.want)
		}
	}
}

// bounds are the numbers of a list that are in a range, each once.
func bounds(low int, high int, list ...int) []int {
	list = slices.DeleteFunc(list, func(n int) bool { return n < low || n > high })
	slices.Sort(list)
	return slices.Compact(list)
}

// tightDistances are those that are just enough for a speed or one less.
func (w wantedDrive) tightDistances() []int {
	list := []int{0, 1, 2, longest - 1, longest}
	for _, need := range w.needs {
		list = append(list, need-1, need)
	}
	return bounds(0, longest, list...)
}

func checkNext(t *testing.T, w wantedDrive, speed int, distance int, top int) {
	got := impl.NextSpeed(speed, distance, top, w.rise)
	if want := w.next(speed, distance, top); got != want {
		t.Errorf("NextSpeed(%d, %d, %d, %d) is %d, not %d", speed, distance, top, w.rise, got, want)
		return
	}
	if got < 0 || got > top || got > speed+w.rise || got+impl.StopDistance(got, w.rise) > distance {
		t.Errorf("NextSpeed(%d, %d, %d, %d) is %d, which is too much", speed, distance, top, w.rise, got)
	}
	more := got + 1
	if more <= top && more <= speed+w.rise && more+impl.StopDistance(more, w.rise) <= distance {
		t.Errorf("NextSpeed(%d, %d, %d, %d) is %d, and one more is possible", speed, distance, top, w.rise, got)
	}
}

// Promise 38.
func TestTheNextSpeedIsTheGreatestOneThatIsSafe(t *testing.T) {
	for _, rise := range []int{1, 2, 3, 7, 10, 24, 49, steep} {
		w := wantedDriveOf(rise)
		distances := w.tightDistances()
		for _, top := range bounds(1, fastest, 1, 2, rise, rise+1, 2*rise, 60, fastest-1, fastest) {
			for _, speed := range bounds(0, fastest, 0, 1, 30, top-rise-1, top-rise, top-rise+1, top, top+1, fastest) {
				for _, distance := range distances {
					checkNext(t, w, speed, distance, top)
				}
			}
		}
	}
}

// Promise 38, for every distance.
func TestTheNextSpeedForEveryDistance(t *testing.T) {
	for _, c := range []struct{ speed, top, rise int }{
		{0, fastest, steep}, {fastest, fastest, steep}, {fastest, fastest, 1}, {80, 90, 7}, {fastest, 5, 3},
	} {
		w := wantedDriveOf(c.rise)
		for distance := 0; distance <= longest; distance++ {
			checkNext(t, w, c.speed, distance, c.top)
		}
	}
}

// Promise 38, for every speed and limit.
func TestTheNextSpeedForEverySpeedAndLimit(t *testing.T) {
	for _, c := range []struct{ distance, rise int }{
		{0, 1}, {1, 1}, {longest, 1}, {longest, 2}, {700, 9}, {300, steep}, {longest, steep},
	} {
		w := wantedDriveOf(c.rise)
		for speed := 0; speed <= fastest; speed++ {
			for top := 1; top <= fastest; top++ {
				checkNext(t, w, speed, c.distance, top)
			}
		}
	}
}

// Promise 38, for invalid arguments: one of them, and all of them.
func TestNextSpeedOfInvalidArguments(t *testing.T) {
	check := func(speed int, distance int, top int, rise int) {
		if got := impl.NextSpeed(speed, distance, top, rise); got != -1 {
			t.Errorf("NextSpeed(%d, %d, %d, %d) is %d", speed, distance, top, rise, got)
		}
	}
	for _, valid := range [][4]int{
		{0, 0, 1, 1}, {fastest, longest, fastest, steep}, {0, longest, 1, steep}, {fastest, 0, fastest, 1}, {7, 40, 9, 3},
	} {
		if got := impl.NextSpeed(valid[0], valid[1], valid[2], valid[3]); got < 0 {
			t.Errorf("NextSpeed of %v is %d", valid, got)
		}
		for _, speed := range outOf(0, fastest) {
			check(speed, valid[1], valid[2], valid[3])
		}
		for _, distance := range outOf(0, longest) {
			check(valid[0], distance, valid[2], valid[3])
		}
		for _, top := range outOf(1, fastest) {
			check(valid[0], valid[1], top, valid[3])
		}
		for _, rise := range outOf(1, steep) {
			check(valid[0], valid[1], valid[2], rise)
		}
	}
	for _, n := range append([]int{-1, longest + 1}, extremes...) {
		check(n, n, n, n)
	}
}

func TestMotionProfileExamples(t *testing.T) {
	for _, c := range []struct {
		distance, top, rise int
		want                []int
	}{
		{10, 3, 1, []int{1, 2, 3, 2, 1, 1}},
		{20, 5, 2, []int{2, 4, 5, 5, 3, 1}},
		// Too short for the limit.
		{0, 3, 1, nil},
		{1, 3, 1, []int{1}},
		{2, 3, 1, []int{1, 1}},
		{3, 3, 1, []int{1, 1, 1}},
		{4, 3, 1, []int{1, 2, 1}},
		{5, 3, 1, []int{1, 2, 1, 1}},
		{6, 3, 1, []int{1, 2, 2, 1}},
		{7, 3, 1, []int{1, 2, 2, 1, 1}},
		{8, 3, 1, []int{1, 2, 2, 2, 1}},
		// Just long enough for it.
		{9, 3, 1, []int{1, 2, 3, 2, 1}},
		{12, 3, 1, []int{1, 2, 3, 3, 2, 1}},
		{7, 9, 9, []int{7}},
		{9, 9, 9, []int{9}},
		{10, 9, 9, []int{9, 1}},
		{9, 9, steep, []int{9}},
		{19, 9, steep, []int{9, 9, 1}},
		// The shortest distances with the least and the greatest limits.
		{0, 1, 1, nil}, {0, 1, steep, nil}, {0, fastest, 1, nil}, {0, fastest, steep, nil},
		{1, 1, 1, []int{1}}, {1, 1, steep, []int{1}}, {1, fastest, 1, []int{1}}, {1, fastest, steep, []int{1}},
		{50, fastest, steep, []int{50}}, {51, fastest, steep, []int{50, 1}}, {101, fastest, steep, []int{50, 50, 1}},
		{102, fastest, steep, []int{50, 51, 1}}, {200, fastest, steep, []int{50, 100, 50}},
		// The longest distance.
		{longest, 1, 1, repeated(1, longest)},
		{longest, 1, steep, repeated(1, longest)},
		{longest, fastest, steep, slices.Concat([]int{50, 100, 150}, repeated(200, 22), []int{150, 100, 50})},
	} {
		if got := impl.MotionProfile(c.distance, c.top, c.rise); !slices.Equal(got, c.want) {
			t.Errorf("MotionProfile(%d, %d, %d) is %v, not %v", c.distance, c.top, c.rise, got, c.want)
		}
	}
}

// With rise 1 the greatest speed that a distance permits is its root, rounded
// down, so that the longest one does not permit MaxSpeed.
func TestTheLongestMotionWithTheLeastRise(t *testing.T) {
	got := impl.MotionProfile(longest, fastest, 1)
	if !slices.Equal(got, wantedDriveOf(1).profile(longest, fastest)) {
		t.Fatalf("MotionProfile(%d, %d, 1) is %v", longest, fastest, got)
	}
	if sumOf(got) != longest || slices.Max(got) != 70 || !slices.Equal(got[:3], []int{1, 2, 3}) {
		t.Errorf("MotionProfile(%d, %d, 1) is %v", longest, fastest, got)
	}
}

// Promise 2.
func TestMotionsEndExactly(t *testing.T) {
	eachMotion(func(w wantedDrive, distance int, top int) {
		got := impl.MotionProfile(distance, top, w.rise)
		if want := w.profile(distance, top); !slices.Equal(got, want) {
			t.Errorf("MotionProfile(%d, %d, %d) is %v, not %v", distance, top, w.rise, got, want)
		}
		if sumOf(got) != distance {
			t.Errorf("the sum of MotionProfile(%d, %d, %d) is %d", distance, top, w.rise, sumOf(got))
		}
		if !isMotion(got, top, w.rise) || !impl.ProfileValid(got, top, w.rise) {
			t.Errorf("MotionProfile(%d, %d, %d) is not valid: %v", distance, top, w.rise, got)
		}
	})
}

// Promise 2. The limit is reached exactly from the distance on in which it can
// be reached and left again.
func TestShortMotionsDoNotReachTheLimit(t *testing.T) {
	for rise := 1; rise <= steep; rise++ {
		for _, top := range []int{1, 2, 3, 10, 50, 51, 99, fastest} {
			least := reachAndLeave(top, rise)
			for _, distance := range bounds(1, longest, least-2, least-1, least, least+1) {
				got := slices.Max(impl.MotionProfile(distance, top, rise))
				if (got == top) != (distance >= least) {
					t.Errorf("the greatest speed of MotionProfile(%d, %d, %d) is %d", distance, top, rise, got)
				}
			}
		}
	}
}

// Promises 2 and 38: a motion consists of next speeds.
func TestMotionsRepeatNextSpeed(t *testing.T) {
	for _, rise := range []int{1, 2, 9, 49, steep} {
		for _, top := range []int{1, 2, 17, 60, fastest} {
			for distance := 0; distance <= longest; distance += 1 + distance/10 {
				left, speed := distance, 0
				for k, got := range impl.MotionProfile(distance, top, rise) {
					speed = impl.NextSpeed(speed, left, top, rise)
					if got != speed {
						t.Errorf("speed %d of MotionProfile(%d, %d, %d) is %d, not %d", k, distance, top, rise, got, speed)
					}
					left -= speed
				}
				if left != 0 || impl.NextSpeed(speed, left, top, rise) != 0 {
					t.Errorf("MotionProfile(%d, %d, %d) leaves %d", distance, top, rise, left)
				}
			}
		}
	}
}

// eachInvalidMotion calls a function with at least one argument out of range.
func eachInvalidMotion(call func(distance int, top int, rise int)) {
	for _, valid := range [][3]int{
		{0, 1, 1}, {1, 1, 1}, {longest, fastest, steep}, {0, fastest, steep}, {longest, 1, 1}, {30, 4, 2},
	} {
		for _, distance := range outOf(0, longest) {
			call(distance, valid[1], valid[2])
		}
		for _, top := range outOf(1, fastest) {
			call(valid[0], top, valid[2])
		}
		for _, rise := range outOf(1, steep) {
			call(valid[0], valid[1], rise)
		}
	}
	for _, n := range append([]int{-1, longest + 1}, extremes...) {
		call(n, n, n)
	}
}

// Promise 2, for invalid arguments.
func TestMotionProfileOfInvalidArguments(t *testing.T) {
	eachInvalidMotion(func(distance int, top int, rise int) {
		if got := impl.MotionProfile(distance, top, rise); len(got) != 0 {
			t.Errorf("MotionProfile(%d, %d, %d) is %v", distance, top, rise, got)
		}
	})
}

// Promise 2. One result is overwritten together with its spare capacity; the
// others must not be affected.
func TestMotionProfilesShareNoMemory(t *testing.T) {
	for _, c := range [][3]int{{1, 1, 1}, {10, 3, 1}, {20, 5, 2}, {longest, fastest, steep}, {longest, 1, 1}, {777, 40, 3}} {
		profile := func() []int { return impl.MotionProfile(c[0], c[1], c[2]) }
		want := wantedDriveOf(c[2]).profile(c[0], c[1])
		before, first, after := profile(), profile(), profile()
		fill(whole(first), 777)
		if !slices.Equal(before, want) || !slices.Equal(after, want) || !slices.Equal(profile(), want) {
			t.Errorf("two results of MotionProfile for %v share memory", c)
		}
		fill(whole(before), 888)
		fill(whole(after), 999)
		if slices.ContainsFunc(whole(first), func(n int) bool { return n != 777 }) {
			t.Errorf("two results of MotionProfile for %v share memory", c)
		}
	}
}

func TestProfileTimeExamples(t *testing.T) {
	for _, c := range []struct{ distance, top, rise, want int }{
		{7, 9, 9, 1}, {10, 3, 1, 6}, {20, 5, 2, 6}, {9, 3, 1, 5}, {4, 3, 1, 3}, {2, 3, 1, 2},
		{0, 1, 1, 0}, {0, fastest, steep, 0}, {1, 1, 1, 1}, {1, fastest, steep, 1},
		{longest, 1, 1, longest}, {longest, 1, steep, longest}, {longest, 2, 2, longest / 2}, {longest, fastest, steep, 28},
		{7, 0, 9, -1}, {7, fastest + 1, 9, -1}, {7, 9, 0, -1}, {7, 9, steep + 1, -1}, {-1, 9, 9, -1}, {longest + 1, 9, 9, -1},
		{0, 0, 1, -1}, {0, 1, 0, -1}, {math.MinInt, 9, 9, -1}, {math.MaxInt, 9, 9, -1},
	} {
		if got := impl.ProfileTime(c.distance, c.top, c.rise); got != c.want {
			t.Errorf("ProfileTime(%d, %d, %d) is %d, not %d", c.distance, c.top, c.rise, got, c.want)
		}
	}
}

// Promise 39.
func TestMotionsTakeTime(t *testing.T) {
	eachMotion(func(w wantedDrive, distance int, top int) {
		got := impl.ProfileTime(distance, top, w.rise)
		if want := len(impl.MotionProfile(distance, top, w.rise)); got != want || got != len(w.profile(distance, top)) {
			t.Errorf("ProfileTime(%d, %d, %d) is %d, not %d", distance, top, w.rise, got, want)
		}
		if got*top < distance || got > distance || (got == 0) != (distance == 0) {
			t.Errorf("ProfileTime(%d, %d, %d) is %d", distance, top, w.rise, got)
		}
	})
}

// Promise 39, for invalid arguments.
func TestProfileTimeOfInvalidArguments(t *testing.T) {
	eachInvalidMotion(func(distance int, top int, rise int) {
		if got := impl.ProfileTime(distance, top, rise); got != -1 {
			t.Errorf("ProfileTime(%d, %d, %d) is %d", distance, top, rise, got)
		}
	})
}

func TestProfileValidExamples(t *testing.T) {
	for _, c := range []struct {
		list      []int
		top, rise int
		want      bool
	}{
		{[]int{1, 2, 1}, 2, 1, true},
		{nil, 1, 1, true}, {[]int{}, fastest, steep, true},
		{[]int{1}, 1, 1, true}, {[]int{3}, 3, 3, true}, {[]int{50}, fastest, steep, true},
		// A speed of 0 or less, at every place.
		{[]int{0}, 1, 1, false}, {[]int{0, 1}, 1, 1, false}, {[]int{1, 0}, 1, 1, false}, {[]int{1, 0, 1}, 1, 1, false},
		{[]int{-1}, 3, 3, false}, {[]int{1, -1, 1}, 3, 3, false}, {[]int{2, -1}, 3, 3, false},
		// A speed above the limit, with and without the other limits kept.
		{[]int{2}, 1, 2, false}, {[]int{2, 3, 2}, 2, 2, false}, {[]int{2, 3, 2}, 3, 2, true}, {[]int{4}, 3, steep, false},
		// A first speed above rise.
		{[]int{2, 1}, 2, 1, false}, {[]int{5, 3}, 9, 4, false}, {[]int{4, 3}, 9, 4, true}, {[]int{51, 50}, fastest, steep, false},
		// A last speed above rise.
		{[]int{2}, 2, 1, false}, {[]int{1, 2}, 2, 1, false}, {[]int{3, 5}, 9, 4, false}, {[]int{3, 4}, 9, 4, true},
		{[]int{50, 51}, fastest, steep, false},
		// Rising by exactly rise and by one more.
		{[]int{1, 3}, 3, 1, false}, {[]int{1, 4, 3}, 9, 3, true}, {[]int{1, 5, 3}, 9, 3, false},
		{[]int{50, 100, 150, 200, 150, 100, 50}, fastest, steep, true},
		{[]int{49, 100, 150, 200, 150, 100, 50}, fastest, steep, false},
		{[]int{50, 100, 149, 200, 150, 100, 50}, fastest, steep, false},
		// Falling by exactly rise and by one more.
		{[]int{3, 4, 1}, 9, 3, true}, {[]int{3, 5, 1}, 9, 3, false}, {[]int{3, 6, 3, 1}, 9, 3, true},
		{[]int{50, 100, 150, 200, 149, 100, 50}, fastest, steep, false},
		{[]int{50, 100, 150, 200, 150, 100, 49}, fastest, steep, false},
		// Differences that overflow.
		{[]int{math.MaxInt}, fastest, steep, false}, {[]int{math.MinInt}, fastest, steep, false},
		{[]int{1, math.MaxInt, 1}, fastest, steep, false}, {[]int{1, math.MinInt, 1}, fastest, steep, false},
		{[]int{math.MaxInt, math.MinInt}, fastest, steep, false}, {[]int{math.MinInt, math.MaxInt}, fastest, steep, false},
		// Slowing down and speeding up again is a motion as well.
		{[]int{2, 4, 2, 1, 3, 1, 2}, 4, 2, true}, {[]int{1, 1, 1, 1}, fastest, 1, true},
	} {
		if got := impl.ProfileValid(c.list, c.top, c.rise); got != c.want {
			t.Errorf("ProfileValid(%v, %d, %d) is %v", c.list, c.top, c.rise, got)
		}
	}
}

func TestProfileValidOfManySpeeds(t *testing.T) {
	for _, c := range []struct{ speed, top, rise int }{
		{1, 1, 1}, {1, fastest, steep}, {50, fastest, steep}, {50, 50, 50}, {7, 8, 9},
	} {
		for _, n := range []int{1, 2, longest - 1, longest} {
			if !impl.ProfileValid(repeated(c.speed, n), c.top, c.rise) {
				t.Errorf("%d speeds of %d are not valid with %d and %d", n, c.speed, c.top, c.rise)
			}
		}
		for _, n := range []int{longest + 1, longest + 2, 2 * longest, 1 << 17} {
			if impl.ProfileValid(repeated(c.speed, n), c.top, c.rise) {
				t.Errorf("%d speeds of %d are valid with %d and %d", n, c.speed, c.top, c.rise)
			}
		}
	}
	late := repeated(1, longest)
	late[longest-1] = 2
	if impl.ProfileValid(late, 2, 1) || !impl.ProfileValid(late, 2, 2) {
		t.Errorf("the last one of %d speeds is not checked", longest)
	}
}

// Promise 40, for limits that are out of range, whatever the speeds are.
func TestProfileValidOfInvalidLimits(t *testing.T) {
	for _, list := range [][]int{nil, {1}, {1, 1}, {1, 2, 1}, {0}, {-1}, {50, 100, 50}, repeated(1, longest)} {
		for _, top := range append(outOf(1, fastest), 1, 2, fastest) {
			for _, rise := range append(outOf(1, steep), 1, 2, steep) {
				valid := 1 <= top && top <= fastest && 1 <= rise && rise <= steep
				if !valid && impl.ProfileValid(list, top, rise) {
					t.Errorf("%d speeds are valid with %d and %d", len(list), top, rise)
				}
			}
		}
	}
}

func reversed(list []int) []int {
	other := slices.Clone(list)
	slices.Reverse(other)
	return other
}

// eachList calls a function with all lists of at most n numbers in 0..high.
func eachList(n int, high int, call func(list []int)) {
	lists := [][]int{nil}
	for len(lists) > 0 {
		list := lists[len(lists)-1]
		lists = lists[:len(lists)-1]
		call(list)
		for value := 0; value <= high && len(list) < n; value++ {
			lists = append(lists, longer(list, value))
		}
	}
}

// Promise 40, for all short lists of small speeds.
func TestShortListsAndTheirReverse(t *testing.T) {
	eachList(5, 5, func(list []int) {
		back := reversed(list)
		for top := 1; top <= 5; top++ {
			for rise := 1; rise <= 5; rise++ {
				got := impl.ProfileValid(list, top, rise)
				if got != isMotion(list, top, rise) {
					t.Errorf("ProfileValid(%v, %d, %d) is %v", list, top, rise, got)
				}
				if got != impl.ProfileValid(back, top, rise) {
					t.Errorf("ProfileValid(%v, %d, %d) differs from that of the reversed list", list, top, rise)
				}
			}
		}
	})
}

// Promise 40, for the motions of MotionProfile.
func TestReversedMotionsAreMotions(t *testing.T) {
	eachMotion(func(w wantedDrive, distance int, top int) {
		list := impl.MotionProfile(distance, top, w.rise)
		if !impl.ProfileValid(reversed(list), top, w.rise) {
			t.Errorf("MotionProfile(%d, %d, %d) is not valid if it is reversed: %v", distance, top, w.rise, list)
		}
	})
}

// Promise 40. A limit below the greatest speed, or a speed above the limit at
// any place, makes a motion invalid.
func TestSpeedsAboveTheLimitAreInvalid(t *testing.T) {
	for _, rise := range []int{1, 2, 3, 20, steep} {
		w := wantedDriveOf(rise)
		for _, top := range []int{1, 2, 3, 30, fastest} {
			for _, distance := range []int{1, 2, 9, 100, 640} {
				list := w.profile(distance, top)
				if most := slices.Max(list); most > 1 && impl.ProfileValid(list, most-1, rise) {
					t.Errorf("%v is valid with the limit %d", list, most-1)
				}
				if most := slices.Max(list); !impl.ProfileValid(list, most, rise) {
					t.Errorf("%v is not valid with the limit %d", list, most)
				}
				for k := range list {
					for _, speed := range append([]int{top + 1, fastest + 1}, extremes...) {
						other := slices.Clone(list)
						other[k] = speed
						if impl.ProfileValid(other, top, rise) {
							t.Errorf("ProfileValid(%v, %d, %d) is true", other, top, rise)
						}
					}
				}
			}
		}
	}
}

// Promise 40. The list and its spare capacity stay as they are.
func TestProfileValidDoesNotChangeTheList(t *testing.T) {
	for _, list := range [][]int{
		nil, {1}, {0}, {-1}, {1, 2, 1}, {2, 1, 3}, {9, 9, 9}, {3, 2, 1}, {math.MaxInt, math.MinInt},
		repeated(1, longest), repeated(1, longest+1),
	} {
		for _, limits := range [][2]int{{1, 1}, {3, 2}, {fastest, steep}, {0, 1}, {1, 0}} {
			given := roomy(list)
			before := slices.Clone(whole(given))
			impl.ProfileValid(given, limits[0], limits[1])
			if !slices.Equal(whole(given), before) {
				t.Errorf("ProfileValid changes %v", list)
			}
		}
	}
}

// stopTable is StopDistance of every speed, for every rise.
func stopTable() [steep + 1][fastest + 1]int {
	var table [steep + 1][fastest + 1]int
	for rise := 1; rise <= steep; rise++ {
		for speed := range table[rise] {
			table[rise][speed] = impl.StopDistance(speed, rise)
		}
	}
	return table
}

// Promise 120.
func TestProfilesRespectTheSafeSpeed(t *testing.T) {
	stops := stopTable()
	eachMotion(func(w wantedDrive, distance int, top int) {
		left := distance
		for k, speed := range impl.MotionProfile(distance, top, w.rise) {
			if speed < 1 || speed > top || speed+stops[w.rise][speed] > left {
				t.Fatalf("speed %d of MotionProfile(%d, %d, %d) is %d with %d left", k, distance, top, w.rise, speed, left)
			}
			left -= speed
		}
		if left != 0 {
			t.Errorf("MotionProfile(%d, %d, %d) leaves %d", distance, top, w.rise, left)
		}
	})
}
