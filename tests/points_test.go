package tests

import (
	"math"
	"math/big"
	"testing"

	"loop.example/robotcell/impl"
)

const greatest = impl.MaxCoordinate

// beyond are coordinates out of range: one beyond either bound, the ends of
// int, and numbers whose square or sum with another one overflows.
var beyond = []int{
	math.MinInt, math.MinInt + 1, -1 << 32, -greatest - 1,
	greatest + 1, 1 << 32, math.MaxInt - 1, math.MaxInt,
}

// within are coordinates in range: both bounds, the numbers next to them, and
// numbers of either sign with every remainder of small divisors.
var within = []int{
	-greatest, -greatest + 1, -4096, -143, -7, -2, -1, 0, 1, 2, 5, 71, 2048, greatest - 1, greatest,
}

func point(x int, y int) impl.Point {
	return impl.Point{X: x, Y: y}
}

// gridOf are all points with these coordinates, by ascending X and then Y if the
// coordinates are ascending.
func gridOf(coordinates ...int) []impl.Point {
	var list []impl.Point
	for _, x := range coordinates {
		for _, y := range coordinates {
			list = append(list, point(x, y))
		}
	}
	return list
}

func samplePoints() []impl.Point {
	return gridOf(within...)
}

// invalidPoints have one coordinate out of range, or both.
func invalidPoints() []impl.Point {
	var list []impl.Point
	for _, c := range beyond {
		for _, other := range []int{0, 1, -greatest, greatest} {
			list = append(list, point(c, other), point(other, c))
		}
		for _, other := range beyond {
			list = append(list, point(c, other))
		}
	}
	return list
}

// floorQuotient is a divided by a positive b, rounded down, in unbounded numbers.
func floorQuotient(a int, b int) int {
	return int(new(big.Int).Div(big.NewInt(int64(a)), big.NewInt(int64(b))).Int64())
}

// searchOrientation compares the slopes from a as fractions.
func searchOrientation(a impl.Point, b impl.Point, c impl.Point) int {
	left := new(big.Int).Mul(big.NewInt(int64(b.X-a.X)), big.NewInt(int64(c.Y-a.Y)))
	right := new(big.Int).Mul(big.NewInt(int64(b.Y-a.Y)), big.NewInt(int64(c.X-a.X)))
	return left.Cmp(right)
}

// nearestRotation rounds exact fractions with the denominator 2*4096.
func nearestRotation(p impl.Point, d int) impl.Point {
	s, c := nearestSine(d), nearestCosine(d)
	return point(
		floorQuotient(2*(p.X*c-p.Y*s)+4096, 2*4096),
		floorQuotient(2*(p.X*s+p.Y*c)+4096, 2*4096),
	)
}

// bestDirections are all numbers of degrees with the greatest projection, in
// ascending order.
func bestDirections(p impl.Point) []int {
	var list []int
	most := math.MinInt
	for d := range 360 {
		value := p.X*nearestCosine(d) + p.Y*nearestSine(d)
		if value > most {
			most, list = value, nil
		}
		if value == most {
			list = append(list, d)
		}
	}
	return list
}

func distanceFromOrigin(p impl.Point) float64 {
	return math.Hypot(float64(p.X), float64(p.Y))
}

func TestMaxCoordinate(t *testing.T) {
	if impl.MaxCoordinate != 10000 {
		t.Fatalf("MaxCoordinate is %d", impl.MaxCoordinate)
	}
}

func TestPointValidExamples(t *testing.T) {
	for _, c := range []struct {
		x, y int
		want bool
	}{
		{0, 0, true}, {1, -1, true}, {-3, 4, true},
		{10000, 0, true}, {-10000, 0, true}, {0, 10000, true}, {0, -10000, true},
		{10000, 10000, true}, {-10000, 10000, true}, {10000, -10000, true}, {-10000, -10000, true},
		{10001, 0, false}, {-10001, 0, false}, {0, 10001, false}, {0, -10001, false},
		{10001, 10000, false}, {-10000, -10001, false}, {10001, -10001, false},
		{math.MinInt, 0, false}, {0, math.MinInt, false}, {math.MaxInt, 0, false}, {0, math.MaxInt, false},
		{math.MinInt, math.MaxInt, false}, {math.MinInt, math.MinInt, false},
	} {
		if got := impl.PointValid(point(c.x, c.y)); got != c.want {
			t.Errorf("PointValid(%d, %d) is %v", c.x, c.y, got)
		}
	}
}

// Promise 23.
func TestCoordinatesAreBounded(t *testing.T) {
	for _, p := range samplePoints() {
		for _, q := range []impl.Point{p, point(p.Y, p.X), point(-p.X, p.Y), point(p.X, -p.Y), point(-p.X, -p.Y)} {
			if !impl.PointValid(q) {
				t.Errorf("%v is not valid", q)
			}
		}
		for _, c := range beyond {
			if impl.PointValid(point(c, p.Y)) || impl.PointValid(point(p.X, c)) {
				t.Errorf("%v is valid with the coordinate %d", p, c)
			}
		}
	}
	for c := -greatest - 50; c <= greatest+50; c++ {
		want := -greatest <= c && c <= greatest
		if impl.PointValid(point(c, 0)) != want || impl.PointValid(point(0, c)) != want {
			t.Errorf("the coordinate %d is not valid as %v", c, want)
		}
	}
	for _, p := range invalidPoints() {
		if impl.PointValid(p) {
			t.Errorf("%v is valid", p)
		}
	}
}

func TestOrientationExamples(t *testing.T) {
	for _, c := range []struct {
		a, b, c impl.Point
		want    int
	}{
		{point(0, 0), point(1, 0), point(0, 1), 1},
		{point(0, 0), point(0, 1), point(1, 0), -1},
		{point(0, 0), point(1, 0), point(5, 0), 0},
		{point(2, 3), point(2, 3), point(2, 3), 0},
		{point(2, 3), point(2, 3), point(9, -4), 0},
		{point(2, 3), point(9, -4), point(2, 3), 0},
		{point(9, -4), point(2, 3), point(2, 3), 0},
		{point(-5, 7), point(5, 7), point(1, 7), 0},
		{point(-5, 7), point(5, 7), point(6, 7), 0},
		{point(-5, 7), point(5, 7), point(-6, 7), 0},
		{point(-5, 7), point(5, 7), point(1, 8), 1},
		{point(-5, 7), point(5, 7), point(1, 6), -1},
		{point(4, -2), point(4, 2), point(4, 0), 0},
		{point(4, -2), point(4, 2), point(4, 3), 0},
		{point(4, -2), point(4, 2), point(4, -3), 0},
		{point(4, -2), point(4, 2), point(3, 0), 1},
		{point(4, -2), point(4, 2), point(5, 0), -1},
		{point(1, 1), point(7, 5), point(4, 3), 0},
		{point(1, 1), point(7, 5), point(10, 7), 0},
		{point(1, 1), point(7, 5), point(-2, -1), 0},
		{point(1, 1), point(7, 5), point(4, 4), 1},
		{point(1, 1), point(7, 5), point(4, 2), -1},
		{point(-10000, -10000), point(10000, 10000), point(-10000, 10000), 1},
		{point(-10000, -10000), point(10000, 10000), point(10000, -10000), -1},
		{point(-10000, -10000), point(10000, 10000), point(9999, 9999), 0},
		{point(-10000, -10000), point(10000, 9999), point(9999, 9998), -1},
	} {
		if got := impl.Orientation(c.a, c.b, c.c); got != c.want {
			t.Errorf("Orientation(%v, %v, %v) is %d, not %d", c.a, c.b, c.c, got, c.want)
		}
	}
}

func TestOrientationOfInvalidPoints(t *testing.T) {
	for _, bad := range invalidPoints() {
		for _, three := range [][3]impl.Point{
			{bad, point(0, 0), point(1, 1)},
			{bad, point(1, 2), point(-3, 1)},
			{bad, bad, point(1, 0)},
			{bad, bad, bad},
		} {
			a, b, c := three[0], three[1], three[2]
			for _, got := range []int{
				impl.Orientation(a, b, c), impl.Orientation(b, c, a), impl.Orientation(c, a, b),
				impl.Orientation(a, c, b), impl.Orientation(c, b, a), impl.Orientation(b, a, c),
			} {
				if got != 0 {
					t.Errorf("the orientation of %v, %v and %v is %d", a, b, c, got)
				}
			}
		}
	}
}

// checkOrder compares all orders of three valid points.
func checkOrder(t *testing.T, a impl.Point, b impl.Point, c impl.Point) {
	got := impl.Orientation(a, b, c)
	if want := searchOrientation(a, b, c); got != want {
		t.Errorf("Orientation(%v, %v, %v) is %d, not %d", a, b, c, got, want)
	}
	if impl.Orientation(b, c, a) != got || impl.Orientation(c, a, b) != got {
		t.Errorf("turning %v, %v and %v cyclically changes the order", a, b, c)
	}
	if impl.Orientation(b, a, c) != -got || impl.Orientation(a, c, b) != -got || impl.Orientation(c, b, a) != -got {
		t.Errorf("exchanging two of %v, %v and %v does not change the sign", a, b, c)
	}
	if impl.Orientation(a, a, b) != 0 || impl.Orientation(a, b, a) != 0 || impl.Orientation(b, a, a) != 0 {
		t.Errorf("%v twice and %v are not on one line", a, b)
	}
}

// Promise 24.
func TestOrdersAreCyclic(t *testing.T) {
	for _, list := range [][]impl.Point{gridOf(-2, -1, 0, 1, 2), gridOf(-greatest, -greatest+1, 0, greatest-1, greatest)} {
		for _, a := range list {
			for _, b := range list {
				for _, c := range list {
					checkOrder(t, a, b, c)
				}
			}
		}
	}
}

// Promise 24, for points on one line and for points next to it.
func TestPointsOnOneLine(t *testing.T) {
	for _, way := range []impl.Point{point(1, 0), point(0, 1), point(1, 1), point(-1, 1), point(3, 2), point(-7, 5), point(999, -998)} {
		for _, from := range []impl.Point{point(0, 0), point(13, -8), point(-3000, 2999)} {
			at := func(k int) impl.Point { return point(from.X+k*way.X, from.Y+k*way.Y) }
			left := point(-way.Y, way.X)
			for i := -3; i <= 3; i++ {
				for j := -3; j <= 3; j++ {
					for k := -3; k <= 3; k++ {
						if got := impl.Orientation(at(i), at(j), at(k)); got != 0 {
							t.Errorf("%v, %v and %v are on one line, not %d", at(i), at(j), at(k), got)
						}
					}
					beside := point(at(i).X+left.X, at(i).Y+left.Y)
					want := 0
					if j > i {
						want = 1
					}
					if j < i {
						want = -1
					}
					if got := impl.Orientation(at(i), at(j), beside); got != want {
						t.Errorf("Orientation(%v, %v, %v) is %d, not %d", at(i), at(j), beside, got, want)
					}
				}
			}
		}
	}
}

func TestSquaredDistanceExamples(t *testing.T) {
	for _, c := range []struct {
		a, b impl.Point
		want int
	}{
		{point(0, 0), point(0, 0), 0},
		{point(0, 0), point(3, 4), 25},
		{point(3, 4), point(0, 0), 25},
		{point(-3, -4), point(0, 0), 25},
		{point(-1, 2), point(4, -10), 169},
		{point(7, 7), point(7, 8), 1},
		{point(7, 7), point(6, 7), 1},
		{point(-10000, 0), point(10000, 0), 400000000},
		{point(0, -10000), point(0, 10000), 400000000},
		{point(-10000, -10000), point(10000, 10000), 800000000},
		{point(-10000, 10000), point(10000, -10000), 800000000},
	} {
		if got := impl.SquaredDistance(c.a, c.b); got != c.want {
			t.Errorf("SquaredDistance(%v, %v) is %d, not %d", c.a, c.b, got, c.want)
		}
	}
}

func TestSquaredDistanceOfInvalidPoints(t *testing.T) {
	for _, bad := range invalidPoints() {
		for _, other := range []impl.Point{{}, point(5, 5), point(greatest, -greatest), bad, point(math.MinInt, math.MaxInt)} {
			if got := impl.SquaredDistance(bad, other); got != -1 {
				t.Errorf("SquaredDistance(%v, %v) is %d, not -1", bad, other, got)
			}
			if got := impl.SquaredDistance(other, bad); got != -1 {
				t.Errorf("SquaredDistance(%v, %v) is %d, not -1", other, bad, got)
			}
		}
	}
}

// checkDistance extends the segment beyond b, if that is still in range.
func checkDistance(t *testing.T, a impl.Point, b impl.Point) {
	got := impl.SquaredDistance(a, b)
	if want := (a.X-b.X)*(a.X-b.X) + (a.Y-b.Y)*(a.Y-b.Y); got != want {
		t.Errorf("SquaredDistance(%v, %v) is %d, not %d", a, b, got, want)
	}
	if back := impl.SquaredDistance(b, a); back != got {
		t.Errorf("SquaredDistance(%v, %v) is %d, but %d in the other order", a, b, got, back)
	}
	if (got == 0) != (a == b) {
		t.Errorf("SquaredDistance(%v, %v) is %d", a, b, got)
	}
	end := point(2*b.X-a.X, 2*b.Y-a.Y)
	if impl.PointValid(end) && impl.SquaredDistance(a, end) != 4*got {
		t.Errorf("SquaredDistance(%v, %v) is %d, not four times %d", a, end, impl.SquaredDistance(a, end), got)
	}
}

// Promise 25.
func TestDistancesAreSymmetric(t *testing.T) {
	list := samplePoints()
	for _, a := range list {
		for _, b := range list {
			checkDistance(t, a, b)
		}
		for x := -2; x <= 2; x++ {
			for y := -2; y <= 2; y++ {
				if b := point(a.X+x, a.Y+y); impl.PointValid(b) {
					checkDistance(t, a, b)
				}
			}
		}
	}
	if got := impl.SquaredDistance(point(-greatest, -greatest), point(greatest, greatest)); got != 4*impl.SquaredDistance(point(-greatest, -greatest), point(0, 0)) {
		t.Errorf("the longest segment has the square %d", got)
	}
}

func TestRotatePointExamples(t *testing.T) {
	for _, c := range []struct {
		p    impl.Point
		d    int
		want impl.Point
	}{
		{point(10, 0), 90, point(0, 10)},
		{point(100, 0), 30, point(87, 50)},
		{point(100, 0), -30, point(87, -50)},
		{point(100, 0), 390, point(87, 50)},
		{point(100, 0), -330, point(87, 50)},
		{point(100, 0), 45, point(71, 71)},
		{point(0, 100), 45, point(-71, 71)},
		{point(3, -7), 0, point(3, -7)},
		{point(3, -7), 90, point(7, 3)},
		{point(3, -7), 180, point(-3, 7)},
		{point(3, -7), 270, point(-7, -3)},
		{point(3, -7), 360, point(3, -7)},
		{point(3, -7), -90, point(-7, -3)},
		{point(3, -7), 450, point(7, 3)},
		{point(3, -7), -810, point(-7, -3)},
		// Halves: 60 degrees have the cosine 2048, 30 degrees the sine 2048.
		{point(1, 0), 60, point(1, 1)},
		{point(-1, 0), 60, point(0, -1)},
		{point(3, 0), 60, point(2, 3)},
		{point(-3, 0), 60, point(-1, -3)},
		{point(0, 1), 60, point(-1, 1)},
		{point(0, -1), 60, point(1, 0)},
		{point(1, 0), 30, point(1, 1)},
		{point(-1, 0), 30, point(-1, 0)},
		{point(0, 1), 30, point(0, 1)},
		{point(0, -1), 30, point(1, -1)},
		{point(5, 0), 150, point(-4, 3)},
		{point(-5, 0), 150, point(4, -2)},
		{point(5, 0), 120, point(-2, 4)},
		{point(5, 0), -120, point(-2, -4)},
		{point(5, 0), 240, point(-2, -4)},
		{point(5, 0), 600, point(-2, -4)},
		{point(9999, 0), 60, point(5000, 8659)},
		{point(-9999, 0), 60, point(-4999, -8659)},
		// A corner of the range leaves the range.
		{point(10000, 10000), 45, point(0, 14141)},
		{point(-10000, 10000), 45, point(-14141, 0)},
		{point(0, 0), 77, point(0, 0)},
		{point(100, 0), math.MaxInt, point(99, 12)},
		{point(100, 0), math.MinInt, point(99, -14)},
	} {
		if got := impl.RotatePoint(c.p, c.d); got != c.want {
			t.Errorf("RotatePoint(%v, %d) is %v, not %v", c.p, c.d, got, c.want)
		}
	}
}

func TestRotatePointOfInvalidPoints(t *testing.T) {
	for _, bad := range invalidPoints() {
		for _, d := range oddDirections {
			if got := impl.RotatePoint(bad, d); got != (impl.Point{}) {
				t.Errorf("RotatePoint(%v, %d) is %v", bad, d, got)
			}
		}
	}
}

func checkRotation(t *testing.T, p impl.Point, d int) {
	got := impl.RotatePoint(p, d)
	if want := nearestRotation(p, d); got != want {
		t.Errorf("RotatePoint(%v, %d) is %v, not %v", p, d, got, want)
	}
	before, after := distanceFromOrigin(p), distanceFromOrigin(got)
	if math.Abs(after-before) > 2+before/1000 {
		t.Errorf("RotatePoint(%v, %d) is %v: the distance changes from %f to %f", p, d, got, before, after)
	}
}

// Promise 26.
func TestQuarterTurnsAreExact(t *testing.T) {
	for _, p := range samplePoints() {
		turned := []impl.Point{p, point(-p.Y, p.X), point(-p.X, -p.Y), point(p.Y, -p.X)}
		for quarter := -9; quarter <= 9; quarter++ {
			want := turned[(quarter+12)%4]
			if got := impl.RotatePoint(p, 90*quarter); got != want {
				t.Errorf("RotatePoint(%v, %d) is %v, not %v", p, 90*quarter, got, want)
			}
		}
		for d := -370; d <= 730; d++ {
			checkRotation(t, p, d)
		}
		for _, d := range oddDirections {
			checkRotation(t, p, d)
		}
	}
}

func TestRotationsRoundHalvesUpwards(t *testing.T) {
	for x := -301; x <= 301; x++ {
		for _, d := range []int{30, 60, 120, 150, 210, 240, 300, 330, -30, -60, -420} {
			checkRotation(t, point(x, 0), d)
			checkRotation(t, point(0, x), d)
		}
		if got, want := impl.RotatePoint(point(x, 0), 60).X, floorQuotient(x+1, 2); got != want {
			t.Errorf("half of %d is rounded to %d, not %d", x, got, want)
		}
	}
}

func TestDirectionOfExamples(t *testing.T) {
	for _, c := range []struct{ x, y, want int }{
		{1, 0, 0}, {10000, 0, 0}, {0, 5, 90}, {0, 10000, 90}, {-1, 0, 180}, {-10000, 0, 180},
		{0, -1, 270}, {0, -10000, 270},
		{3, 3, 45}, {-3, 3, 135}, {-3, -3, 225}, {3, -3, 315},
		{10000, 10000, 45}, {-10000, 10000, 135}, {-10000, -10000, 225}, {10000, -10000, 315},
		{2, 1, 27}, {1, 2, 63}, {2, -1, 333}, {1, -2, 297},
		// Next to the positive X axis: one degree never has the greatest value.
		{10000, 1, 0}, {10000, -1, 0}, {72, 1, 0}, {72, -1, 0}, {71, 1, 2}, {71, -1, 358},
		{10000, 139, 0}, {10000, 140, 2}, {10000, -139, 0}, {10000, -140, 358},
		// Several numbers of degrees with the same greatest value.
		{143, 2, 0}, {143, -2, 0}, {-66, 26, 158}, {-31, -64, 243}, {65, 60, 42},
		{-59, -41, 214}, {-9, -71, 262}, {47, -54, 310}, {99, -42, 336},
	} {
		if got := impl.DirectionOf(point(c.x, c.y)); got != c.want {
			t.Errorf("DirectionOf(%d, %d) is %d, not %d", c.x, c.y, got, c.want)
		}
	}
}

func TestDirectionOfTheOriginAndInvalidPoints(t *testing.T) {
	if got := impl.DirectionOf(impl.Point{}); got != -1 {
		t.Errorf("the direction of the origin is %d", got)
	}
	for _, bad := range invalidPoints() {
		if got := impl.DirectionOf(bad); got != -1 {
			t.Errorf("DirectionOf(%v) is %d, not -1", bad, got)
		}
	}
}

func checkDirection(t *testing.T, p impl.Point) {
	got := impl.DirectionOf(p)
	if got < 0 || got > 359 {
		t.Fatalf("DirectionOf(%v) is %d, out of 0..359", p, got)
	}
	projection := p.X*impl.Cosine(got) + p.Y*impl.Sine(got)
	for d := 0; d < 360; d += 5 {
		if p.X*impl.Cosine(d)+p.Y*impl.Sine(d) > projection {
			t.Errorf("DirectionOf(%v) is %d, but %d has a greater projection", p, got, d)
		}
	}
	opposite := impl.DirectionOf(point(-p.X, -p.Y))
	if impl.AngleBetween(got, opposite) < 177 {
		t.Errorf("DirectionOf(%v) is %d, but %d for the opposite point", p, got, opposite)
	}
}

// Promise 27.
func TestDirectionsHaveTheGreatestProjection(t *testing.T) {
	for x := 1; x <= greatest; x++ {
		if got := impl.DirectionOf(point(x, 0)); got != 0 {
			t.Fatalf("DirectionOf(%d, 0) is %d", x, got)
		}
	}
	for _, p := range samplePoints() {
		if p != (impl.Point{}) {
			checkDirection(t, p)
		}
	}
	for d := range 360 {
		for _, length := range []int{1, 2, 10, 500, greatest} {
			if p := impl.RotatePoint(point(length, 0), d); p != (impl.Point{}) && impl.PointValid(p) {
				checkDirection(t, p)
			}
		}
	}
}

func TestDirectionsAreTheSmallestAmongEquals(t *testing.T) {
	ties := 0
	check := func(p impl.Point) {
		best := bestDirections(p)
		if got := impl.DirectionOf(p); got != best[0] {
			t.Errorf("DirectionOf(%v) is %d, not the first of %v", p, got, best)
		}
		if len(best) > 1 {
			ties++
		}
	}
	for x := -40; x <= 40; x++ {
		for y := -40; y <= 40; y++ {
			if x != 0 || y != 0 {
				check(point(x, y))
			}
		}
	}
	for y := -4; y <= 4; y++ {
		for x := 60; x < 300; x++ {
			check(point(x, y))
			check(point(-x, y))
		}
	}
	for y := -350; y <= 350; y++ {
		check(point(greatest, y))
		check(point(-greatest, y))
	}
	if ties < 20 {
		t.Errorf("only %d points with several best directions were tried", ties)
	}
}

func TestMidpointExamples(t *testing.T) {
	for _, c := range []struct{ a, b, want impl.Point }{
		{point(1, 0), point(2, -1), point(1, -1)},
		{point(0, 0), point(0, 0), point(0, 0)},
		{point(0, 0), point(4, 6), point(2, 3)},
		{point(0, 0), point(5, 7), point(2, 3)},
		{point(0, 0), point(-5, -7), point(-3, -4)},
		{point(0, 0), point(-4, -6), point(-2, -3)},
		{point(-1, 1), point(0, 0), point(-1, 0)},
		{point(-3, 3), point(4, -4), point(0, -1)},
		{point(-4, 4), point(3, -3), point(-1, 0)},
		{point(10000, -10000), point(9999, -9999), point(9999, -10000)},
		{point(-10000, 10000), point(10000, -10000), point(0, 0)},
		{point(-10000, -10000), point(-10000, -10000), point(-10000, -10000)},
		{point(10000, 10000), point(10000, 10000), point(10000, 10000)},
	} {
		if got := impl.Midpoint(c.a, c.b); got != c.want {
			t.Errorf("Midpoint(%v, %v) is %v, not %v", c.a, c.b, got, c.want)
		}
	}
}

func TestMidpointOfInvalidPoints(t *testing.T) {
	for _, bad := range invalidPoints() {
		for _, other := range []impl.Point{{}, point(8, -6), point(greatest, greatest), bad, point(math.MaxInt, math.MaxInt)} {
			if got := impl.Midpoint(bad, other); got != (impl.Point{}) {
				t.Errorf("Midpoint(%v, %v) is %v", bad, other, got)
			}
			if got := impl.Midpoint(other, bad); got != (impl.Point{}) {
				t.Errorf("Midpoint(%v, %v) is %v", other, bad, got)
			}
		}
	}
}

func between(a int, c int, b int) bool {
	return min(a, b) <= c && c <= max(a, b)
}

// Promise 28.
func TestTheMiddleIsBetween(t *testing.T) {
	list := samplePoints()
	for _, a := range list {
		if got := impl.Midpoint(a, a); got != a {
			t.Errorf("Midpoint(%v, %v) is %v", a, a, got)
		}
		for _, b := range list {
			got := impl.Midpoint(a, b)
			if want := point(floorQuotient(a.X+b.X, 2), floorQuotient(a.Y+b.Y, 2)); got != want {
				t.Errorf("Midpoint(%v, %v) is %v, not %v", a, b, got, want)
			}
			if !between(a.X, got.X, b.X) || !between(a.Y, got.Y, b.Y) {
				t.Errorf("Midpoint(%v, %v) is %v, not between them", a, b, got)
			}
			if back := impl.Midpoint(b, a); back != got {
				t.Errorf("Midpoint(%v, %v) is %v, but %v in the other order", a, b, got, back)
			}
		}
	}
}
