package tests

import (
	"testing"

	"loop.example/robotcell/impl"
)

// mostRepeats is the greatest number of repetitions of a frame.
const mostRepeats = 100

// wantedRepeats are the frames for 0 to mostRepeats repetitions.
func wantedRepeats(f impl.Frame) []impl.Frame {
	list := []impl.Frame{{}}
	for len(list) <= mostRepeats {
		list = append(list, wantedComposition(list[len(list)-1], f))
	}
	return list
}

// stayingRepeats are frames whose repetitions are all in range.
func stayingRepeats() []impl.Frame {
	list := framesOf(-10000, -9999, -1, 0, 1, 77, 10000)
	for _, f := range framesOf(-500000, -499999, -3, 0, 123456, 500000) {
		if f.Q != 0 {
			list = append(list, f)
		}
	}
	return list
}

// leavingRepeats are frames of which some repetition is out of range.
func leavingRepeats() []impl.Frame {
	list := []impl.Frame{frame(frameEnd, 1, 1), frame(1, frameEnd, 1), frame(1, frameEnd, 3), frame(frameEnd, -1, 3), frame(500001, 500000, 1), frame(-500001, 500000, 3)}
	for _, c := range []int{10001, 10101, 20001, 33334, 100001, 333334, 400000, 500001, 600000, frameEnd} {
		list = append(list, frame(c, 0, 0), frame(-c, 7, 0), frame(7, c, 0), frame(c, -c, 0))
	}
	return list
}

func TestRepeatFrameExamples(t *testing.T) {
	for _, c := range []struct {
		f    impl.Frame
		n    int
		want impl.Frame
	}{
		{frame(3, 4, 0), 0, frame(0, 0, 0)}, {frame(3, 4, 0), 1, frame(3, 4, 0)}, {frame(3, 4, 0), 2, frame(6, 8, 0)}, {frame(3, 4, 0), 3, frame(9, 12, 0)}, {frame(3, 4, 0), 99, frame(297, 396, 0)}, {frame(3, 4, 0), 100, frame(300, 400, 0)},
		{frame(3, 4, 1), 0, frame(0, 0, 0)}, {frame(3, 4, 1), 1, frame(3, 4, 1)}, {frame(3, 4, 1), 2, frame(-1, 7, 2)}, {frame(3, 4, 1), 3, frame(-4, 3, 3)}, {frame(3, 4, 1), 4, frame(0, 0, 0)}, {frame(3, 4, 1), 5, frame(3, 4, 1)}, {frame(3, 4, 1), 99, frame(-4, 3, 3)}, {frame(3, 4, 1), 100, frame(0, 0, 0)},
		{frame(3, 4, 2), 1, frame(3, 4, 2)}, {frame(3, 4, 2), 2, frame(0, 0, 0)}, {frame(3, 4, 2), 3, frame(3, 4, 2)}, {frame(3, 4, 2), 99, frame(3, 4, 2)}, {frame(3, 4, 2), 100, frame(0, 0, 0)},
		{frame(3, 4, 3), 1, frame(3, 4, 3)}, {frame(3, 4, 3), 2, frame(7, 1, 2)}, {frame(3, 4, 3), 3, frame(4, -3, 1)}, {frame(3, 4, 3), 4, frame(0, 0, 0)}, {frame(3, 4, 3), 99, frame(4, -3, 1)}, {frame(3, 4, 3), 100, frame(0, 0, 0)},
		{frame(0, 0, 1), 7, frame(0, 0, 3)}, {frame(0, 0, 3), 7, frame(0, 0, 1)}, {frame(0, 0, 2), 7, frame(0, 0, 2)}, {frame(0, 0, 0), 100, frame(0, 0, 0)},
		// Up to the ends of the range, and beyond them.
		{frame(10000, 0, 0), 100, frame(1000000, 0, 0)}, {frame(-10000, 10000, 0), 100, frame(-1000000, 1000000, 0)}, {frame(10001, 0, 0), 99, frame(990099, 0, 0)}, {frame(10001, 0, 0), 100, frame(0, 0, 0)},
		{frame(400000, 0, 0), 2, frame(800000, 0, 0)}, {frame(400000, 0, 0), 3, frame(0, 0, 0)}, {frame(400000, 0, 0), 4, frame(400000, 0, 0)}, {frame(400000, 0, 0), 5, frame(800000, 0, 0)}, {frame(400000, 0, 0), 6, frame(0, 0, 0)}, {frame(400000, 0, 0), 100, frame(400000, 0, 0)},
		{frame(7, -1000000, 0), 1, frame(7, -1000000, 0)}, {frame(7, -1000000, 0), 2, frame(0, 0, 0)}, {frame(7, -1000000, 0), 3, frame(7, -1000000, 0)}, {frame(7, -1000000, 0), 100, frame(0, 0, 0)}, {frame(7, -333334, 0), 3, frame(0, 0, 0)}, {frame(7, -333334, 0), 4, frame(7, -333334, 0)}, {frame(7, -333333, 0), 3, frame(21, -999999, 0)},
		{frame(1000000, 0, 1), 2, frame(1000000, 1000000, 2)}, {frame(1000000, 0, 1), 3, frame(0, 1000000, 3)}, {frame(1000000, 0, 1), 4, frame(0, 0, 0)}, {frame(1000000, 1, 1), 2, frame(0, 0, 0)}, {frame(1000000, 1, 1), 3, frame(1000000, 1, 1)}, {frame(1000000, 1, 1), 4, frame(0, 0, 0)}, {frame(1000000, -1000000, 3), 2, frame(0, 0, 0)}, {frame(1000000, -1000000, 3), 99, frame(1000000, -1000000, 3)}, {frame(1000000, 1000000, 2), 2, frame(0, 0, 0)}, {frame(1000000, 1000000, 2), 3, frame(1000000, 1000000, 2)},
		// Invalid numbers and frames.
		{frame(3, 4, 0), -1, frame(0, 0, 0)}, {frame(3, 4, 0), 101, frame(0, 0, 0)}, {frame(3, 4, 1), 101, frame(0, 0, 0)}, {frame(3, 4, 1), -3, frame(0, 0, 0)}, {frame(3, 4, 4), 1, frame(0, 0, 0)}, {frame(3, 4, -1), 1, frame(0, 0, 0)}, {frame(1000001, 0, 0), 1, frame(0, 0, 0)}, {frame(0, -1000001, 0), 1, frame(0, 0, 0)}, {frame(3, 4, 4), 0, frame(0, 0, 0)},
	} {
		if got := impl.RepeatFrame(c.f, c.n); got != c.want {
			t.Errorf("RepeatFrame(%v, %d) is %v, not %v", c.f, c.n, got, c.want)
		}
	}
}

// Promise 88, for all numbers of repetitions, of which each is the composition of
// the one before it and the frame.
func TestRepeatFrameIsTheCompositionWithTheOneBefore(t *testing.T) {
	frames := append(stayingRepeats(), leavingRepeats()...)
	for _, f := range append(frames, scatteredFrames(400)...) {
		for n, want := range wantedRepeats(f) {
			got := impl.RepeatFrame(f, n)
			if got != want {
				t.Errorf("RepeatFrame(%v, %d) is %v, not %v", f, n, got, want)
			}
			if n > 0 && got != impl.ComposeFrames(impl.RepeatFrame(f, n-1), f) {
				t.Errorf("RepeatFrame(%v, %d) is %v, not the composition with the one before it", f, n, got)
			}
		}
	}
}

// Promise 88.
func TestFourQuarterTurnsReturn(t *testing.T) {
	frames := append(framesOf(frameNumbers...), scatteredFrames(800)...)
	for _, f := range append(frames, stayingRepeats()...) {
		if got, want := impl.RepeatFrame(f, 2), impl.ComposeFrames(f, f); got != want {
			t.Errorf("RepeatFrame(%v, 2) is %v, and the composition with itself %v", f, got, want)
		}
		if got := impl.RepeatFrame(f, 4); f.Q%2 == 1 && isComposed(f, f) && got != (impl.Frame{}) {
			t.Errorf("RepeatFrame(%v, 4) is %v", f, got)
		}
		if got := impl.RepeatFrame(f, 2); f.Q == 2 && got != (impl.Frame{}) {
			t.Errorf("RepeatFrame(%v, 2) is %v", f, got)
		}
	}
}

// Promise 88, for frames whose repetitions are all in range: without quarter turns
// they are multiples, and with them they return after two or four.
func TestRepetitionsThatStayInRange(t *testing.T) {
	for _, f := range stayingRepeats() {
		for n := range mostRepeats + 1 {
			got, want := impl.RepeatFrame(f, n), frame(n*f.X, n*f.Y, 0)
			if f.Q != 0 {
				want = impl.RepeatFrame(f, n%4)
			}
			if got != want {
				t.Errorf("RepeatFrame(%v, %d) is %v, not %v", f, n, got, want)
			}
		}
	}
}

// Promise 88: where a repetition is out of range, the next one is the frame itself.
func TestRepetitionsGoOnFromTheZeroValue(t *testing.T) {
	for _, f := range leavingRepeats() {
		left := 0
		for n := 1; n < mostRepeats; n++ {
			if impl.RepeatFrame(f, n) == (impl.Frame{}) {
				left++
				if got := impl.RepeatFrame(f, n+1); got != f {
					t.Errorf("RepeatFrame(%v, %d) is the zero value, and the next one %v", f, n, got)
				}
			}
		}
		if left == 0 && impl.RepeatFrame(f, mostRepeats) != (impl.Frame{}) {
			t.Errorf("no repetition of %v is the zero value", f)
		}
	}
}

// Promise 88, for invalid frames and numbers of repetitions, and for both.
func TestRepeatFrameOfInvalidArguments(t *testing.T) {
	check := func(f impl.Frame, n int) {
		if got := impl.RepeatFrame(f, n); got != (impl.Frame{}) {
			t.Errorf("RepeatFrame(%v, %d) is %v", f, n, got)
		}
	}
	wrongRepeats := outOf(0, mostRepeats)
	for _, f := range framesOf(-frameEnd, -1, 0, 7, frameEnd) {
		for _, n := range wrongRepeats {
			check(f, n)
		}
	}
	for _, bad := range badFrames() {
		for _, n := range append([]int{0, 1, 2, 3, 4, 99, mostRepeats}, wrongRepeats...) {
			check(bad, n)
		}
	}
}
