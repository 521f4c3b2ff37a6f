package tests

import (
	"testing"

	"loop.example/robotcell/impl"
)

// fewFrames are at both ends of the range and inside it, with all quarter turns.
func fewFrames() []impl.Frame {
	return append(framesOf(-frameEnd, -3, 0, 500000, frameEnd), scatteredFrames(64)...)
}

// wantedComposition expects valid frames.
func wantedComposition(a impl.Frame, b impl.Frame) impl.Frame {
	return placementOf(a).times(placementOf(b)).frame()
}

// isComposed reports whether the composition of valid frames is in range.
func isComposed(a impl.Frame, b impl.Frame) bool {
	p := placementOf(a).of(point(b.X, b.Y))
	return absolute(p.X) <= frameEnd && absolute(p.Y) <= frameEnd
}

func TestComposeFramesExamples(t *testing.T) {
	for _, c := range []struct{ a, b, want impl.Frame }{
		// All pairs of quarter turns.
		{frame(100, 20, 0), frame(3, 4, 0), frame(103, 24, 0)}, {frame(100, 20, 0), frame(3, 4, 1), frame(103, 24, 1)}, {frame(100, 20, 0), frame(3, 4, 2), frame(103, 24, 2)}, {frame(100, 20, 0), frame(3, 4, 3), frame(103, 24, 3)},
		{frame(100, 20, 1), frame(3, 4, 0), frame(96, 23, 1)}, {frame(100, 20, 1), frame(3, 4, 1), frame(96, 23, 2)}, {frame(100, 20, 1), frame(3, 4, 2), frame(96, 23, 3)}, {frame(100, 20, 1), frame(3, 4, 3), frame(96, 23, 0)},
		{frame(100, 20, 2), frame(3, 4, 0), frame(97, 16, 2)}, {frame(100, 20, 2), frame(3, 4, 1), frame(97, 16, 3)}, {frame(100, 20, 2), frame(3, 4, 2), frame(97, 16, 0)}, {frame(100, 20, 2), frame(3, 4, 3), frame(97, 16, 1)},
		{frame(100, 20, 3), frame(3, 4, 0), frame(104, 17, 3)}, {frame(100, 20, 3), frame(3, 4, 1), frame(104, 17, 0)}, {frame(100, 20, 3), frame(3, 4, 2), frame(104, 17, 1)}, {frame(100, 20, 3), frame(3, 4, 3), frame(104, 17, 2)},
		// Some of them in the other order.
		{frame(3, 4, 1), frame(100, 20, 0), frame(-17, 104, 1)}, {frame(3, 4, 0), frame(100, 20, 1), frame(103, 24, 1)}, {frame(3, 4, 2), frame(100, 20, 1), frame(-97, -16, 3)}, {frame(3, 4, 3), frame(100, 20, 2), frame(23, -96, 1)},
		{frame(10, 0, 1), frame(5, 0, 0), frame(10, 5, 1)}, {frame(5, 0, 0), frame(10, 0, 1), frame(15, 0, 1)},
		// The zero value on either side.
		{frame(0, 0, 0), frame(3, 4, 3), frame(3, 4, 3)}, {frame(3, 4, 3), frame(0, 0, 0), frame(3, 4, 3)}, {frame(0, 0, 0), frame(0, 0, 0), frame(0, 0, 0)}, {frame(-1000000, 1000000, 2), frame(0, 0, 0), frame(-1000000, 1000000, 2)}, {frame(0, 0, 0), frame(-1000000, 1000000, 2), frame(-1000000, 1000000, 2)},
		// Results at the ends of the range, and one beyond them.
		{frame(999999, 0, 0), frame(1, 0, 2), frame(1000000, 0, 2)}, {frame(999999, 0, 0), frame(2, 0, 2), frame(0, 0, 0)}, {frame(-999999, 0, 0), frame(-1, 0, 1), frame(-1000000, 0, 1)}, {frame(-999999, 0, 0), frame(-2, 0, 1), frame(0, 0, 0)},
		{frame(0, 600000, 0), frame(7, 400000, 1), frame(7, 1000000, 1)}, {frame(0, 600000, 0), frame(7, 400001, 1), frame(0, 0, 0)}, {frame(0, -600000, 0), frame(7, -400000, 1), frame(7, -1000000, 1)}, {frame(0, -600000, 0), frame(7, -400001, 1), frame(0, 0, 0)},
		{frame(5, 600000, 1), frame(400000, 5, 3), frame(0, 1000000, 0)}, {frame(5, 600000, 1), frame(400001, 5, 3), frame(0, 0, 0)}, {frame(-1000000, 9, 1), frame(8, 0, 1), frame(-1000000, 17, 2)}, {frame(-1000000, 9, 1), frame(8, 1, 1), frame(0, 0, 0)}, {frame(-1000000, 9, 1), frame(8, -1, 1), frame(-999999, 17, 2)},
		{frame(1000000, 1000000, 2), frame(1000000, 1000000, 1), frame(0, 0, 3)}, {frame(1000000, -1000000, 2), frame(1000000, -1000000, 2), frame(0, 0, 0)}, {frame(1000000, 1000000, 0), frame(1000000, 1000000, 1), frame(0, 0, 0)}, {frame(1000000, -1000000, 3), frame(1, 0, 0), frame(0, 0, 0)},
		// Invalid frames.
		{frame(1, 2, 4), frame(3, 4, 0), frame(0, 0, 0)}, {frame(3, 4, 0), frame(1, 2, 4), frame(0, 0, 0)}, {frame(1, 2, -1), frame(3, 4, 1), frame(0, 0, 0)}, {frame(3, 4, 1), frame(1, 2, -1), frame(0, 0, 0)}, {frame(1000001, 0, 0), frame(-5, 0, 0), frame(0, 0, 0)}, {frame(-5, 0, 0), frame(1000001, 0, 0), frame(0, 0, 0)}, {frame(0, -1000001, 0), frame(0, 0, 0), frame(0, 0, 0)}, {frame(0, 0, 0), frame(0, -1000001, 0), frame(0, 0, 0)}, {frame(0, 1000001, 4), frame(1000001, 0, -1), frame(0, 0, 0)},
	} {
		if got := impl.ComposeFrames(c.a, c.b); got != c.want {
			t.Errorf("ComposeFrames(%v, %v) is %v, not %v", c.a, c.b, got, c.want)
		}
	}
}

// Promise 8, also for results out of range.
func TestComposeFramesIsTheProduct(t *testing.T) {
	frames := append(fewFrames(), framesOf(-500000, -1, 999999)...)
	for _, a := range frames {
		for _, b := range frames {
			if got, want := impl.ComposeFrames(a, b), wantedComposition(a, b); got != want {
				t.Errorf("ComposeFrames(%v, %v) is %v, not %v", a, b, got, want)
			}
		}
	}
}

// Promise 8.
func TestTheZeroFrameChangesNothing(t *testing.T) {
	for _, f := range append(framesOf(frameNumbers...), scatteredFrames(400)...) {
		if got := impl.ComposeFrames(f, impl.Frame{}); got != f {
			t.Errorf("the composition of %v with the zero frame is %v", f, got)
		}
		if got := impl.ComposeFrames(impl.Frame{}, f); got != f {
			t.Errorf("the composition of the zero frame with %v is %v", f, got)
		}
	}
}

// Promise 8: the results at the ends of the range are in it, for all quarter turns
// and all four directions, and those one beyond them are not.
func TestCompositionsAtTheEndsOfTheRange(t *testing.T) {
	for _, a := range framesOf(-frameEnd, -frameEnd+1, -77, 0, 500000, frameEnd) {
		for _, to := range gridOf(-frameEnd-1, -frameEnd, 0, frameEnd, frameEnd+1) {
			// The coordinates of b are those of the way, turned back.
			way := placementOf(frame(0, 0, (4-a.Q)%4)).of(point(to.X-a.X, to.Y-a.Y))
			for q := range 4 {
				b := frame(way.X, way.Y, q)
				want := frame(to.X, to.Y, (a.Q+q)%4)
				if !impl.FrameValid(b) || !impl.FrameValid(want) {
					want = impl.Frame{}
				}
				if got := impl.ComposeFrames(a, b); got != want {
					t.Errorf("ComposeFrames(%v, %v) is %v, not %v", a, b, got, want)
				}
			}
		}
	}
}

// Promise 8, for three frames. A result between that is out of range is the zero
// value, with which the composition goes on.
func TestCompositionIsAssociative(t *testing.T) {
	inRange, outOfRange := 0, 0
	for _, a := range fewFrames() {
		for _, b := range fewFrames() {
			for _, c := range fewFrames() {
				first, last := impl.ComposeFrames(a, b), impl.ComposeFrames(b, c)
				left, right := impl.ComposeFrames(first, c), impl.ComposeFrames(a, last)
				if left != wantedComposition(first, c) || right != wantedComposition(a, last) {
					t.Errorf("the compositions of %v, %v and %v are %v and %v", a, b, c, left, right)
				}
				if !isComposed(a, b) || !isComposed(b, c) || !isComposed(first, c) {
					outOfRange++
					continue
				}
				inRange++
				if left != right {
					t.Errorf("the compositions of %v, %v and %v are %v and %v", a, b, c, left, right)
				}
			}
		}
	}
	if inRange < 100000 || outOfRange < 100000 {
		t.Errorf("%d compositions are in range, and %d are not", inRange, outOfRange)
	}
}

// Promise 8: a result between is out of range, so the two ways differ.
func TestCompositionGoesOnFromTheZeroValue(t *testing.T) {
	a, b, c := frame(600000, 0, 0), frame(500000, 0, 0), frame(-700000, 0, 1)
	if got := impl.ComposeFrames(impl.ComposeFrames(a, b), c); got != c {
		t.Errorf("the composition of the first two frames, and the third, is %v", got)
	}
	if got := impl.ComposeFrames(a, impl.ComposeFrames(b, c)); got != frame(400000, 0, 1) {
		t.Errorf("the composition of the first frame, and the last two, is %v", got)
	}
	a, b, c = frame(-700000, 0, 1), frame(0, 600000, 2), frame(0, -500000, 3)
	if got := impl.ComposeFrames(impl.ComposeFrames(a, b), c); got != c {
		t.Errorf("the composition of the first two frames, and the third, is %v", got)
	}
	if got := impl.ComposeFrames(a, impl.ComposeFrames(b, c)); got != a {
		t.Errorf("the composition of the first frame, and the last two, is %v", got)
	}
}

// Promise 8.
func TestApplyingACompositionIsApplyingBoth(t *testing.T) {
	checked := 0
	frames := append(framesOf(-greatest, -3, 0, 1, 5000, greatest), scatteredFrames(64)...)
	for _, a := range append(frames, fewFrames()...) {
		for _, b := range frames {
			for _, p := range gridOf(-greatest, -9, 0, 4, greatest) {
				between := impl.ApplyFrame(b, p)
				if !isComposed(a, b) || !impl.PointValid(between) {
					continue
				}
				checked++
				if got, want := impl.ApplyFrame(impl.ComposeFrames(a, b), p), impl.ApplyFrame(a, between); got != want {
					t.Errorf("ApplyFrame of the composition of %v and %v to %v is %v, not %v", a, b, p, got, want)
				}
			}
		}
	}
	if checked < 100000 {
		t.Errorf("only %d points were checked", checked)
	}
}

// Promise 8, for an invalid frame on either side, and for two.
func TestComposeFramesOfInvalidFrames(t *testing.T) {
	check := func(a impl.Frame, b impl.Frame) {
		if got := impl.ComposeFrames(a, b); got != (impl.Frame{}) {
			t.Errorf("ComposeFrames(%v, %v) is %v", a, b, got)
		}
	}
	for _, bad := range badFrames() {
		for _, f := range framesOf(-frameEnd, 0, 5, frameEnd) {
			check(bad, f)
			check(f, bad)
		}
	}
	for _, bad := range fewBadFrames() {
		for _, other := range fewBadFrames() {
			check(bad, other)
		}
	}
}

func TestInvertFrameExamples(t *testing.T) {
	for _, c := range []struct{ f, want impl.Frame }{
		{frame(0, 0, 0), frame(0, 0, 0)}, {frame(0, 0, 1), frame(0, 0, 3)}, {frame(0, 0, 2), frame(0, 0, 2)}, {frame(0, 0, 3), frame(0, 0, 1)},
		{frame(3, 4, 0), frame(-3, -4, 0)}, {frame(3, 4, 1), frame(-4, 3, 3)}, {frame(3, 4, 2), frame(3, 4, 2)}, {frame(3, 4, 3), frame(4, -3, 1)}, {frame(10, 0, 1), frame(0, 10, 3)},
		{frame(1000000, -1000000, 0), frame(-1000000, 1000000, 0)}, {frame(1000000, -1000000, 1), frame(1000000, 1000000, 3)}, {frame(1000000, -1000000, 2), frame(1000000, -1000000, 2)}, {frame(1000000, -1000000, 3), frame(-1000000, -1000000, 1)}, {frame(-1000000, 999999, 3), frame(999999, 1000000, 1)},
		{frame(3, 4, 4), frame(0, 0, 0)}, {frame(3, 4, -1), frame(0, 0, 0)}, {frame(1000001, 0, 0), frame(0, 0, 0)}, {frame(-1000001, 0, 1), frame(0, 0, 0)}, {frame(0, 1000001, 2), frame(0, 0, 0)}, {frame(0, -1000001, 3), frame(0, 0, 0)},
	} {
		if got := impl.InvertFrame(c.f); got != c.want {
			t.Errorf("InvertFrame(%v) is %v, not %v", c.f, got, c.want)
		}
	}
}

// Promise 86. The product is checked besides the composition, which is the zero
// value also where it is out of range.
func TestInversesUndo(t *testing.T) {
	for _, f := range append(framesOf(frameNumbers...), scatteredFrames(800)...) {
		got := impl.InvertFrame(f)
		if !impl.FrameValid(got) {
			t.Errorf("InvertFrame(%v) is %v", f, got)
			continue
		}
		if placementOf(f).times(placementOf(got)) != placementOf(impl.Frame{}) {
			t.Errorf("InvertFrame(%v) is %v", f, got)
		}
		if impl.ComposeFrames(f, got) != (impl.Frame{}) || impl.ComposeFrames(got, f) != (impl.Frame{}) {
			t.Errorf("the compositions of %v with its inverse are %v and %v", f, impl.ComposeFrames(f, got), impl.ComposeFrames(got, f))
		}
		if back := impl.InvertFrame(got); back != f {
			t.Errorf("the inverse of the inverse of %v is %v", f, back)
		}
	}
}

// Promise 86: the inverse of a composition is that of the inverses in the other
// order, and it brings every point back.
func TestInversesUndoCompositions(t *testing.T) {
	for _, a := range fewFrames() {
		for _, b := range fewFrames() {
			if !isComposed(a, b) {
				continue
			}
			both := impl.ComposeFrames(a, b)
			if got, want := impl.ComposeFrames(impl.InvertFrame(b), impl.InvertFrame(a)), impl.InvertFrame(both); isComposed(impl.InvertFrame(b), impl.InvertFrame(a)) && got != want {
				t.Errorf("the inverse of the composition of %v and %v is %v, and the composition of the inverses %v", a, b, want, got)
			}
			if got := placementOf(both).of(impl.ApplyFrame(impl.InvertFrame(both), point(77, -5))); got != point(77, -5) {
				t.Errorf("%v and its inverse move {77 -5} to %v", both, got)
			}
		}
	}
}

// Promise 86.
func TestInvertFrameOfInvalidFrames(t *testing.T) {
	for _, bad := range badFrames() {
		if got := impl.InvertFrame(bad); got != (impl.Frame{}) {
			t.Errorf("InvertFrame(%v) is %v", bad, got)
		}
	}
}
