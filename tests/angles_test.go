package tests

import (
	"math"
	"math/big"
	"testing"

	"loop.example/robotcell/impl"
)

// oddDirections are the numbers of degrees at which a reduction can go wrong:
// both sides of 0 and of every quarter, several turns away, and both ends of int.
var oddDirections = []int{
	math.MinInt, math.MinInt + 1, math.MinInt + 359, math.MinInt + 360,
	-1000000007, -3601, -721, -720, -719, -361, -360, -359, -271, -270, -269,
	-181, -180, -179, -91, -90, -89, -30, -1, 0, 1, 30, 89, 90, 91,
	179, 180, 181, 269, 270, 271, 359, 360, 361, 719, 720, 721, 3601, 1000000007,
	math.MaxInt - 360, math.MaxInt - 359, math.MaxInt - 1, math.MaxInt,
}

// reduce is the expected result of Degrees, computed in unbounded numbers.
func reduce(d int) int {
	return int(new(big.Int).Mod(big.NewInt(int64(d)), big.NewInt(360)).Int64())
}

// nearestSine is the expected result of Sine. No sine of a whole number of
// degrees is close enough to a half for the rounding of floats to matter.
func nearestSine(d int) int {
	return int(math.Round(4096 * math.Sin(float64(reduce(d))*math.Pi/180)))
}

func nearestCosine(d int) int {
	return int(math.Round(4096 * math.Cos(float64(reduce(d))*math.Pi/180)))
}

// searchAngle tries turns from the smallest on, in both directions.
func searchAngle(a int, b int) int {
	a, b = reduce(a), reduce(b)
	for turn := 0; turn <= 180; turn++ {
		if (a+turn)%360 == b || (b+turn)%360 == a {
			return turn
		}
	}
	return -1
}

// walk turns one degree at a time.
func walk(a int, b int, step int) int {
	a, b = reduce(a), reduce(b)
	way := 359
	if (a+searchAngle(a, b))%360 == b {
		way = 1
	}
	for ; step > 0 && a != b; step-- {
		a = (a + way) % 360
	}
	return a
}

func TestUnit(t *testing.T) {
	if impl.Unit != 4096 {
		t.Fatalf("Unit is %d", impl.Unit)
	}
}

func TestDegreesExamples(t *testing.T) {
	for _, c := range []struct{ d, want int }{
		{0, 0}, {1, 1}, {359, 359}, {360, 0}, {361, 1}, {719, 359}, {720, 0},
		{-1, 359}, {-30, 330}, {-359, 1}, {-360, 0}, {-361, 359}, {-720, 0},
		{math.MaxInt, 7}, {math.MinInt, 352},
	} {
		if got := impl.Degrees(c.d); got != c.want {
			t.Errorf("Degrees(%d) is %d, not %d", c.d, got, c.want)
		}
	}
}

// Promise 17.
func TestFullTurnsDoNotMatter(t *testing.T) {
	check := func(d int) {
		got := impl.Degrees(d)
		if got < 0 || got > 359 {
			t.Errorf("Degrees(%d) is %d, out of 0..359", d, got)
		}
		if got != reduce(d) {
			t.Errorf("Degrees(%d) is %d, not %d", d, got, reduce(d))
		}
		if again := impl.Degrees(got); again != got {
			t.Errorf("Degrees(%d) is %d, but Degrees of that is %d", d, got, again)
		}
		if less := impl.Degrees(got - 360); less != got {
			t.Errorf("Degrees(%d) is %d, but %d after a full turn less", d, got, less)
		}
		if d >= math.MinInt+360 && impl.Degrees(d-360) != got {
			t.Errorf("Degrees(%d) is %d, but Degrees(%d) is not", d, got, d-360)
		}
	}
	for d := -1500; d <= 1500; d++ {
		check(d)
	}
	for _, d := range oddDirections {
		check(d)
	}
}

func TestSineExamples(t *testing.T) {
	for _, c := range []struct{ d, sine, cosine int }{
		{0, 0, 4096}, {30, 2048, 3547}, {45, 2896, 2896}, {60, 3547, 2048},
		{90, 4096, 0}, {120, 3547, -2048}, {135, 2896, -2896}, {180, 0, -4096},
		{210, -2048, -3547}, {270, -4096, 0}, {300, -3547, 2048}, {360, 0, 4096},
		{-30, -2048, 3547}, {-90, -4096, 0}, {-180, 0, -4096}, {-270, 4096, 0},
		{1, 71, 4095}, {89, 4095, 71}, {-1, -71, 4095}, {359, -71, 4095},
	} {
		if got := impl.Sine(c.d); got != c.sine {
			t.Errorf("Sine(%d) is %d, not %d", c.d, got, c.sine)
		}
		if got := impl.Cosine(c.d); got != c.cosine {
			t.Errorf("Cosine(%d) is %d, not %d", c.d, got, c.cosine)
		}
	}
}

func TestSineAndCosineAreNearest(t *testing.T) {
	check := func(d int) {
		if got, want := impl.Sine(d), nearestSine(d); got != want {
			t.Errorf("Sine(%d) is %d, not %d", d, got, want)
		}
		if got, want := impl.Cosine(d), nearestCosine(d); got != want {
			t.Errorf("Cosine(%d) is %d, not %d", d, got, want)
		}
	}
	for d := -720; d <= 1080; d++ {
		check(d)
	}
	for _, d := range oddDirections {
		check(d)
	}
}

// Promise 18.
func TestSinesAreSymmetric(t *testing.T) {
	for d := -720; d <= 1080; d++ {
		s := impl.Sine(d)
		if s < -impl.Unit || s > impl.Unit {
			t.Errorf("Sine(%d) is %d, out of -Unit..Unit", d, s)
		}
		if half := impl.Sine(d + 180); half != -s {
			t.Errorf("Sine(%d) is %d, but Sine(%d) is %d", d, s, d+180, half)
		}
		if other := impl.Sine(180 - d); other != s {
			t.Errorf("Sine(%d) is %d, but Sine(%d) is %d", d, s, 180-d, other)
		}
	}
	if impl.Sine(math.MaxInt-180) != -impl.Sine(math.MaxInt) {
		t.Error("half a turn below the largest int does not change the sign")
	}
	if impl.Sine(math.MinInt+180) != -impl.Sine(math.MinInt) {
		t.Error("half a turn above the smallest int does not change the sign")
	}
}

// Promise 19.
func TestSineAndCosineAreOnTheUnitCircle(t *testing.T) {
	check := func(d int) {
		s, c := impl.Sine(d), impl.Cosine(d)
		if more := impl.Sine(reduce(d) + 90); c != more {
			t.Errorf("Cosine(%d) is %d, but the sine of 90 degrees more is %d", d, c, more)
		}
		differs := s*s + c*c - impl.Unit*impl.Unit
		if differs < -2*impl.Unit || differs > 2*impl.Unit {
			t.Errorf("the squares at %d degrees differ from the circle by %d", d, differs)
		}
	}
	for d := -720; d <= 1080; d++ {
		check(d)
		if impl.Cosine(d) != impl.Sine(d+90) {
			t.Errorf("Cosine(%d) is not Sine(%d)", d, d+90)
		}
	}
	for _, d := range oddDirections {
		check(d)
	}
}

func TestSquareRootExamples(t *testing.T) {
	for _, c := range []struct{ n, want int }{
		{0, 0}, {1, 1}, {2, 1}, {3, 1}, {4, 2}, {8, 2}, {9, 3}, {99, 9}, {100, 10}, {101, 10},
		{999998000000, 999998}, {999998000001, 999999}, {999999999999, 999999},
		{1000000000000, 1000000},
	} {
		if got := impl.SquareRoot(c.n); got != c.want {
			t.Errorf("SquareRoot(%d) is %d, not %d", c.n, got, c.want)
		}
	}
}

// Promise 20.
func TestRootsAreExactBelow(t *testing.T) {
	check := func(n int) {
		r := impl.SquareRoot(n)
		if r < 0 || r > 1000000 || r*r > n || (r+1)*(r+1) <= n {
			t.Fatalf("SquareRoot(%d) is %d", n, r)
		}
	}
	for n := 0; n <= 100000; n++ {
		check(n)
	}
	for r := 1; r <= 1000000; r++ {
		check(r*r - 1)
		check(r * r)
		if r < 1000000 {
			check(r*r + 1)
		}
	}
}

func TestSquareRootOutOfRange(t *testing.T) {
	for _, n := range []int{
		-1, -2, -4, -100, -1000000000000, math.MinInt + 1, math.MinInt,
		1000000000001, 1000002000001, 4000000000000, math.MaxInt - 1, math.MaxInt,
	} {
		if got := impl.SquareRoot(n); got != 0 {
			t.Errorf("SquareRoot(%d) is %d, not 0", n, got)
		}
	}
}

func TestAngleBetweenExamples(t *testing.T) {
	for _, c := range []struct{ a, b, want int }{
		{0, 0, 0}, {350, 20, 30}, {20, 350, 30}, {0, 180, 180}, {180, 0, 180},
		{0, 179, 179}, {0, 181, 179}, {359, 0, 1}, {0, 359, 1}, {-10, 10, 20},
		{10, -10, 20}, {-1, 359, 0}, {720, -360, 0}, {365, -5, 10}, {-170, 170, 20},
		{math.MaxInt, math.MinInt, 15}, {math.MinInt, math.MaxInt, 15},
		{math.MaxInt, 7, 0}, {math.MinInt, -8, 0},
	} {
		if got := impl.AngleBetween(c.a, c.b); got != c.want {
			t.Errorf("AngleBetween(%d, %d) is %d, not %d", c.a, c.b, got, c.want)
		}
	}
}

// Promise 21.
func TestAnglesAreSymmetric(t *testing.T) {
	check := func(a int, b int) {
		got := impl.AngleBetween(a, b)
		if got < 0 || got > 180 {
			t.Errorf("AngleBetween(%d, %d) is %d, out of 0..180", a, b, got)
		}
		if want := searchAngle(a, b); got != want {
			t.Errorf("AngleBetween(%d, %d) is %d, not %d", a, b, got, want)
		}
		if back := impl.AngleBetween(b, a); back != got {
			t.Errorf("AngleBetween(%d, %d) is %d, but %d in the other order", a, b, got, back)
		}
		if opposite := impl.AngleBetween(a, reduce(b)+180); opposite != 180-got {
			t.Errorf("AngleBetween(%d, %d) is %d, but %d to the opposite direction", a, b, got, opposite)
		}
		if equal := impl.AngleBetween(a, reduce(a)); equal != 0 {
			t.Errorf("the angle of %d and its reduction is %d", a, equal)
		}
	}
	for a := -360; a < 720; a += 7 {
		for b := -360; b < 720; b++ {
			check(a, b)
		}
	}
	for _, a := range oddDirections {
		for _, b := range oddDirections {
			check(a, b)
		}
	}
}

// Promise 130.
func TestDetoursAreNotShorter(t *testing.T) {
	var angle [360][360]int
	for a := range angle {
		for b := range angle {
			angle[a][b] = impl.AngleBetween(a, b)
		}
	}
	for a := range angle {
		for b := range angle {
			for c := range angle {
				if angle[a][b] > angle[a][c]+angle[c][b] {
					t.Fatalf("the detour from %d to %d over %d is shorter", a, b, c)
				}
			}
		}
	}
	for _, a := range oddDirections {
		for _, b := range oddDirections {
			for _, c := range oddDirections {
				if impl.AngleBetween(a, b) > impl.AngleBetween(a, c)+impl.AngleBetween(c, b) {
					t.Fatalf("the detour from %d to %d over %d is shorter", a, b, c)
				}
			}
		}
	}
}

func TestTurnTowardExamples(t *testing.T) {
	for _, c := range []struct{ a, b, step, want int }{
		{350, 20, 10, 0}, {350, 20, 29, 19}, {350, 20, 30, 20}, {350, 20, 31, 20},
		{10, 300, 30, 340}, {20, 350, 25, 355}, {20, 350, 30, 350},
		{-10, 10, 5, 355}, {-10, 10, 15, 5}, {10, -10, 15, 355}, {370, 710, 5, 5},
		{5, 9, 30, 9}, {9, 5, 30, 5}, {5, 9, 3, 8}, {9, 5, 3, 6},
		{0, 180, 45, 45}, {180, 0, 45, 225}, {270, 90, 100, 10}, {90, 270, 1, 91},
		{0, 180, 180, 180}, {0, 180, 179, 179}, {0, 181, 10, 350}, {0, 179, 10, 10},
		{0, 90, 0, 0}, {-30, 90, 0, 330}, {400, 40, 0, 40}, {77, 77, 50, 77},
		{math.MaxInt, math.MinInt, 10, 357}, {math.MinInt, math.MaxInt, 10, 2},
		{math.MaxInt, math.MinInt, 15, 352}, {math.MinInt, math.MaxInt, 0, 352},
	} {
		if got := impl.TurnToward(c.a, c.b, c.step); got != c.want {
			t.Errorf("TurnToward(%d, %d, %d) is %d, not %d", c.a, c.b, c.step, got, c.want)
		}
	}
}

func TestTurnTowardStepOutOfRange(t *testing.T) {
	for _, step := range []int{math.MinInt, -361, -360, -181, -180, -1, 181, 182, 359, 360, 361, math.MaxInt} {
		for _, a := range oddDirections {
			for _, b := range []int{a, 0, 1, 180, -180, math.MinInt, math.MaxInt} {
				if got := impl.TurnToward(a, b, step); got != -1 {
					t.Errorf("TurnToward(%d, %d, %d) is %d, not -1", a, b, step, got)
				}
			}
		}
	}
}

// Promise 22.
func TestTurnsApproach(t *testing.T) {
	check := func(a int, b int, step int) {
		got := impl.TurnToward(a, b, step)
		if got < 0 || got > 359 {
			t.Errorf("TurnToward(%d, %d, %d) is %d, out of 0..359", a, b, step, got)
		}
		if want := walk(a, b, step); got != want {
			t.Errorf("TurnToward(%d, %d, %d) is %d, not %d", a, b, step, got, want)
		}
		before, after := impl.AngleBetween(a, b), impl.AngleBetween(got, b)
		if after != max(before-step, 0) {
			t.Errorf("TurnToward(%d, %d, %d) leaves %d of %d", a, b, step, after, before)
		}
		if turned := impl.AngleBetween(a, got); turned > step {
			t.Errorf("TurnToward(%d, %d, %d) turns by %d", a, b, step, turned)
		}
		if all := impl.TurnToward(a, b, 180); all != reduce(b) {
			t.Errorf("TurnToward(%d, %d, 180) is %d", a, b, all)
		}
	}
	steps := []int{0, 1, 2, 29, 30, 31, 45, 89, 90, 91, 178, 179, 180}
	for a := -361; a < 722; a += 19 {
		for b := -8; b < 368; b++ {
			for _, step := range steps {
				check(a, b, step)
			}
		}
	}
	for _, a := range oddDirections {
		for _, b := range oddDirections {
			for step := 0; step <= 180; step++ {
				check(a, b, step)
			}
		}
	}
}

// Promise 131.
func TestTurnsInStepsReachTheTarget(t *testing.T) {
	check := func(a int, b int, step int) {
		turns := (searchAngle(a, b) + step - 1) / step
		d := a
		for k := range turns {
			if reduce(d) == reduce(b) {
				t.Fatalf("from %d to %d by %d the target is reached after %d turns, not %d", a, b, step, k, turns)
			}
			d = impl.TurnToward(d, b, step)
		}
		if reduce(d) != reduce(b) {
			t.Fatalf("from %d to %d by %d the direction is %d after %d turns", a, b, step, d, turns)
		}
		if more := impl.TurnToward(d, b, step); more != reduce(b) {
			t.Fatalf("from %d to %d by %d the next turn leaves the target for %d", a, b, step, more)
		}
	}
	for _, a := range oddDirections {
		for _, b := range oddDirections {
			for step := 1; step <= 180; step++ {
				check(a, b, step)
			}
		}
	}
	for b := range 360 {
		for step := 1; step <= 180; step++ {
			check(350, b, step)
			check(-10-b, 10, step)
		}
	}
}
