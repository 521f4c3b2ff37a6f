package tests

import (
	"testing"

	"loop.example/robotcell/impl"
)

const frameEnd = impl.MaxFrame

// frameRanges are the least and the greatest valid numbers of a frame: of both
// coordinates and of the quarter turns.
var frameRanges = [][2]int{{-frameEnd, frameEnd}, {-frameEnd, frameEnd}, {0, 3}}

// frameNumbers are coordinates of frames: both bounds, those of points, numbers
// beside them, and small ones.
var frameNumbers = []int{-frameEnd, -frameEnd + 1, -123456, -greatest - 1, -greatest, -3, -1, 0, 1, 7, greatest, 500000, frameEnd - 1, frameEnd}

func frame(x int, y int, q int) impl.Frame {
	return impl.Frame{X: x, Y: y, Q: q}
}

// framesOf have all pairs of these coordinates, with all quarter turns each.
func framesOf(coordinates ...int) []impl.Frame {
	var list []impl.Frame
	for _, p := range gridOf(coordinates...) {
		for q := range 4 {
			list = append(list, frame(p.X, p.Y, q))
		}
	}
	return list
}

// scatteredFrames have coordinates of either sign, large and small, that follow no
// simple rule.
func scatteredFrames(n int) []impl.Frame {
	var list []impl.Frame
	for k, points := range scatteredLists(n, 1) {
		scale := []int{1, 1, 10, frameEnd / greatest}[k/4%4]
		list = append(list, frame(points[0].X*scale, points[0].Y*scale, k/16%4))
	}
	return list
}

// badFrames have one number, two or all three of them out of range.
func badFrames() []impl.Frame {
	var list []impl.Frame
	for _, valid := range [][]int{{0, 0, 0}, {frameEnd, -frameEnd, 3}, {-5, 7, 1}} {
		eachSpoiled(valid, frameRanges, func(args []int) { list = append(list, frame(args[0], args[1], args[2])) })
	}
	return list
}

// fewBadFrames have one number out of range.
func fewBadFrames() []impl.Frame {
	var list []impl.Frame
	for _, n := range outOf(-frameEnd, frameEnd) {
		list = append(list, frame(n, 0, 0), frame(0, n, 0), frame(n, 5, 3), frame(-5, n, 1))
	}
	for _, n := range outOf(0, 3) {
		list = append(list, frame(0, 0, n), frame(3, -7, n))
	}
	return list
}

// placement is a frame as a matrix. Its product with a point that has 1 as a third
// coordinate is the point as it is seen from where the frame is seen from.
type placement [3][3]int

func placementOf(f impl.Frame) placement {
	cosine, sine := []int{1, 0, -1, 0}[f.Q], []int{0, 1, 0, -1}[f.Q]
	return placement{{cosine, -sine, f.X}, {sine, cosine, f.Y}, {0, 0, 1}}
}

func (a placement) times(b placement) placement {
	var product placement
	for row := range 3 {
		for column := range 3 {
			for k := range 3 {
				product[row][column] += a[row][k] * b[k][column]
			}
		}
	}
	return product
}

// of is the product with a point: a matrix without turn has the point in its last
// column.
func (a placement) of(p impl.Point) impl.Point {
	product := a.times(placementOf(frame(p.X, p.Y, 0)))
	return point(product[0][2], product[1][2])
}

// frame is the one with this matrix, or the zero value if that is not valid.
func (a placement) frame() impl.Frame {
	for q := range 4 {
		f := frame(a[0][2], a[1][2], q)
		if placementOf(f) == a && absolute(f.X) <= frameEnd && absolute(f.Y) <= frameEnd {
			return f
		}
	}
	return impl.Frame{}
}

func squareBetween(p impl.Point, r impl.Point) int {
	return (p.X-r.X)*(p.X-r.X) + (p.Y-r.Y)*(p.Y-r.Y)
}

func TestFrameConstants(t *testing.T) {
	if impl.MaxFrame != 1000000 {
		t.Fatalf("MaxFrame is %d", impl.MaxFrame)
	}
}

// Promise 85.
func TestFrameValidExamples(t *testing.T) {
	for _, c := range []struct {
		f    impl.Frame
		want bool
	}{
		{impl.Frame{}, true}, {frame(0, 0, 0), true}, {frame(0, 0, 1), true}, {frame(0, 0, 2), true}, {frame(0, 0, 3), true},
		{frame(0, 0, 4), false}, {frame(0, 0, -1), false}, {frame(0, 0, 5), false}, {frame(0, 0, 8), false}, {frame(0, 0, 90), false}, {frame(0, 0, -4), false},
		{frame(1000000, 0, 0), true}, {frame(-1000000, 0, 0), true}, {frame(1000001, 0, 0), false}, {frame(-1000001, 0, 0), false},
		{frame(0, 1000000, 0), true}, {frame(0, -1000000, 0), true}, {frame(0, 1000001, 0), false}, {frame(0, -1000001, 0), false},
		{frame(1000000, 1000000, 3), true}, {frame(-1000000, -1000000, 3), true}, {frame(1000000, -1000000, 0), true}, {frame(-1000000, 1000000, 4), false}, {frame(10001, -10001, 2), true},
	} {
		if got := impl.FrameValid(c.f); got != c.want {
			t.Errorf("FrameValid(%v) is %v", c.f, got)
		}
	}
}

// Promise 85: the same frame with four quarter turns is not valid, nor is one with
// other numbers out of range.
func TestFrameValidOfAllFrames(t *testing.T) {
	for _, f := range append(framesOf(frameNumbers...), scatteredFrames(400)...) {
		if !impl.FrameValid(f) {
			t.Errorf("the frame %v is not valid", f)
		}
		for _, q := range outOf(0, 3) {
			if bad := frame(f.X, f.Y, q); impl.FrameValid(bad) {
				t.Errorf("the frame %v is valid", bad)
			}
		}
	}
	for _, bad := range badFrames() {
		if impl.FrameValid(bad) {
			t.Errorf("the frame %v is valid", bad)
		}
	}
}

func TestApplyFrameExamples(t *testing.T) {
	for _, c := range []struct {
		f    impl.Frame
		p    impl.Point
		want impl.Point
	}{
		{frame(0, 0, 0), point(3, 4), point(3, 4)}, {frame(0, 0, 1), point(3, 4), point(-4, 3)}, {frame(0, 0, 2), point(3, 4), point(-3, -4)}, {frame(0, 0, 3), point(3, 4), point(4, -3)},
		{frame(1, 2, 0), point(3, 4), point(4, 6)}, {frame(1, 2, 1), point(3, 4), point(-3, 5)}, {frame(1, 2, 2), point(3, 4), point(-2, -2)}, {frame(1, 2, 3), point(3, 4), point(5, -1)},
		{frame(5, -6, 1), point(0, 0), point(5, -6)}, {frame(0, 0, 3), point(0, 0), point(0, 0)}, {frame(-5, 6, 3), point(-6, -5), point(-10, 12)},
		// The result may be no valid point.
		{frame(10000, 0, 0), point(10000, 0), point(20000, 0)}, {frame(1000000, -1000000, 0), point(10000, -10000), point(1010000, -1010000)}, {frame(1000000, 1000000, 1), point(10000, -10000), point(1010000, 1010000)}, {frame(-1000000, -1000000, 2), point(10000, 10000), point(-1010000, -1010000)}, {frame(1000000, -1000000, 3), point(10000, 10000), point(1010000, -1010000)}, {frame(1000000, 1000000, 3), point(0, 0), point(1000000, 1000000)},
		// Invalid frames and points.
		{frame(0, 0, 4), point(3, 4), point(0, 0)}, {frame(0, 0, -1), point(3, 4), point(0, 0)}, {frame(1000001, 0, 0), point(3, 4), point(0, 0)}, {frame(0, -1000001, 0), point(3, 4), point(0, 0)}, {frame(1, 2, 0), point(10001, 0), point(0, 0)}, {frame(1, 2, 0), point(0, -10001), point(0, 0)}, {frame(10000, 0, 2), point(10001, 0), point(0, 0)}, {frame(1, 2, 4), point(10001, 0), point(0, 0)},
	} {
		if got := impl.ApplyFrame(c.f, c.p); got != c.want {
			t.Errorf("ApplyFrame(%v, %v) is %v, not %v", c.f, c.p, got, c.want)
		}
	}
}

func TestApplyFrameIsTheProduct(t *testing.T) {
	for _, f := range append(framesOf(frameNumbers...), scatteredFrames(400)...) {
		for _, p := range samplePoints() {
			if got, want := impl.ApplyFrame(f, p), placementOf(f).of(p); got != want {
				t.Errorf("ApplyFrame(%v, %v) is %v, not %v", f, p, got, want)
			}
		}
	}
}

// Promise 87. The distances are compared also where the results are no valid points.
func TestFramesMoveRigidly(t *testing.T) {
	points := gridOf(-greatest, -77, 0, 1, greatest)
	for _, f := range append(framesOf(-frameEnd, -greatest, -3, 0, 1, frameEnd), scatteredFrames(200)...) {
		if got := impl.ApplyFrame(f, point(0, 0)); got != point(f.X, f.Y) {
			t.Errorf("ApplyFrame(%v) of the origin is %v", f, got)
		}
		for _, p := range points {
			for _, r := range points {
				q, s := impl.ApplyFrame(f, p), impl.ApplyFrame(f, r)
				if got, want := squareBetween(q, s), impl.SquaredDistance(p, r); got != want {
					t.Errorf("the squared distance of %v and %v is %d, and %d after ApplyFrame of %v", p, r, want, got, f)
				}
				if impl.PointValid(q) && impl.PointValid(s) && impl.SquaredDistance(q, s) != impl.SquaredDistance(p, r) {
					t.Errorf("SquaredDistance(%v, %v) is not that of %v and %v", q, s, p, r)
				}
			}
		}
	}
}

// Promise 87: three points keep their orientation, so a frame does not mirror.
func TestFramesDoNotMirror(t *testing.T) {
	for _, f := range framesOf(-5, 0, 1, 777) {
		for _, p := range gridOf(-7, 0, 2) {
			for _, r := range gridOf(-1, 3) {
				got := impl.Orientation(impl.ApplyFrame(f, point(1, 1)), impl.ApplyFrame(f, p), impl.ApplyFrame(f, r))
				if want := impl.Orientation(point(1, 1), p, r); got != want {
					t.Errorf("the orientation of {1 1}, %v and %v is %d, and %d after ApplyFrame of %v", p, r, want, got, f)
				}
			}
		}
	}
}

// Promise 123, for all multiples of 90 degrees.
func TestQuarterTurnsOfPointsAndFramesAgree(t *testing.T) {
	points := samplePoints()
	for _, list := range scatteredLists(400, 4) {
		points = append(points, list...)
	}
	for c := -greatest; c <= greatest; c += 40 {
		points = append(points, point(c, greatest), point(-greatest, c), point(c, -c), point(c, c/3))
	}
	for _, p := range points {
		if got, want := impl.RotatePoint(p, 90), impl.ApplyFrame(frame(0, 0, 1), p); got != want {
			t.Errorf("RotatePoint(%v, 90) is %v, and ApplyFrame is %v", p, got, want)
		}
		for q := range 4 {
			if got, want := impl.RotatePoint(p, 90*q), impl.ApplyFrame(frame(0, 0, q), p); got != want {
				t.Errorf("RotatePoint(%v, %d) is %v, and ApplyFrame is %v", p, 90*q, got, want)
			}
		}
	}
	for _, bad := range invalidPoints() {
		if impl.RotatePoint(bad, 90) != (impl.Point{}) || impl.ApplyFrame(frame(0, 0, 1), bad) != (impl.Point{}) {
			t.Errorf("RotatePoint and ApplyFrame of %v are %v and %v", bad, impl.RotatePoint(bad, 90), impl.ApplyFrame(frame(0, 0, 1), bad))
		}
	}
}

// Promise 87, for invalid frames, invalid points, and both.
func TestApplyFrameOfInvalidArguments(t *testing.T) {
	check := func(f impl.Frame, p impl.Point) {
		if got := impl.ApplyFrame(f, p); got != (impl.Point{}) {
			t.Errorf("ApplyFrame(%v, %v) is %v", f, p, got)
		}
	}
	for _, bad := range badFrames() {
		for _, p := range gridOf(-greatest, 0, 3, greatest) {
			check(bad, p)
		}
	}
	for _, bad := range invalidPoints() {
		for _, f := range framesOf(-frameEnd, -greatest, 0, 5, greatest, frameEnd) {
			check(f, bad)
		}
		for _, f := range fewBadFrames() {
			check(f, bad)
		}
	}
}
