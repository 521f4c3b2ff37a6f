package tests

import (
	"slices"
	"testing"

	"loop.example/robotcell/impl"
)

const lastTime = impl.MaxTime

// pickRanges are the least and the greatest valid arguments of PickTime.
var pickRanges = [][2]int{{-greatest, greatest}, {0, fastest}, {-greatest, greatest}, {-greatest, greatest}, {0, lastTime}}

// belt is a conveyor with its window.
type belt struct {
	speed int
	low   int
	high  int
}

// reaches tells whether an item is in the window at a time.
func (b belt) reaches(place int, time int) bool {
	at := place + b.speed*time
	return b.low <= at && at <= b.high
}

func (b belt) pick(place int, ready int) int {
	return impl.PickTime(place, b.speed, b.low, b.high, ready)
}

// wantedPick moves the item from time to time, until there is no time left.
func (b belt) wantedPick(place int, ready int) int {
	for time := ready; time <= lastTime; time++ {
		if b.reaches(place, time) {
			return time
		}
	}
	return -1
}

func TestPickTimeExamples(t *testing.T) {
	for _, c := range []struct{ place, speed, low, high, ready, want int }{
		// Ahead of the window, with a distance that the speed divides, and with
		// those beside it.
		{-10, 3, 0, 5, 0, 4}, {-9, 3, 0, 5, 0, 3}, {-8, 3, 0, 5, 0, 3}, {-7, 3, 0, 5, 0, 3}, {-6, 3, 0, 5, 0, 2},
		{-1, 3, 0, 5, 0, 1}, {-2, 3, 0, 5, 0, 1}, {-3, 3, 0, 5, 0, 1}, {-4, 3, 0, 5, 0, 2},
		{-1, 1, 0, 0, 0, 1}, {-100, 10, 0, 9, 0, 10}, {-101, 10, 0, 9, 0, 11}, {-99, 10, 0, 9, 0, 10},
		{100, 7, 200, 210, 0, 15}, {-300, 7, -200, -190, 0, 15}, {-30, 7, 40, 50, 0, 10},
		// At the low end, inside, at the high end, and one behind it.
		{0, 3, 0, 5, 0, 0}, {1, 3, 0, 5, 0, 0}, {4, 3, 0, 5, 0, 0}, {5, 3, 0, 5, 0, 0}, {6, 3, 0, 5, 0, -1}, {7, 3, 0, 5, 0, -1},
		{-5, 1, -5, -2, 0, 0}, {-2, 1, -5, -2, 0, 0}, {-1, 1, -5, -2, 0, -1}, {-6, 1, -5, -2, 0, 1},
		{6, 1, 0, 5, 0, -1}, {6, 1, 0, 5, 2000, -1}, {10000, 200, -10000, 9999, 0, -1}, {10000, 200, -10000, 10000, 0, 0},
		// The item passes over the window between two times, or just does not.
		{-1, 7, 0, 5, 0, -1}, {-2, 7, 0, 5, 0, 1}, {-7, 7, 0, 5, 0, 1}, {-8, 7, 0, 5, 0, -1}, {-9, 7, 0, 5, 0, 2},
		{-1, 200, 0, 198, 0, -1}, {-1, 200, 0, 199, 0, 1}, {-100, 200, 0, 99, 0, -1}, {-100, 200, 0, 100, 0, 1}, {-101, 200, 0, 99, 0, 1},
		// The item is in the window at the time ready, just has passed it, or
		// comes later.
		{-10, 3, 0, 5, 3, 4}, {-10, 3, 0, 5, 4, 4}, {-10, 3, 0, 5, 5, 5}, {-10, 3, 0, 5, 6, -1}, {-10, 3, 0, 5, 7, -1}, {-10, 3, 0, 5, 2000, -1},
		{0, 1, 0, 5, 5, 5}, {0, 1, 0, 5, 6, -1}, {5, 1, 0, 5, 1, -1}, {-1000, 1, 0, 0, 1000, 1000}, {-1000, 1, 0, 0, 999, 1000}, {-1000, 1, 0, 0, 1001, -1},
		{-10000, 5, -100, 100, 1981, 1981}, {-10000, 5, -100, 100, 1980, 1980}, {-10000, 5, -100, 100, 1979, 1980}, {-10000, 5, 0, 100, 2000, 2000}, {-10000, 6, 0, 100, 2000, -1},
		// The conveyor stands: in the window, at its ends, and beside it.
		{3, 0, 0, 5, 7, 7}, {0, 0, 0, 5, 0, 0}, {5, 0, 0, 5, 2000, 2000}, {-1, 0, 0, 5, 0, -1}, {6, 0, 0, 5, 0, -1}, {-1, 0, 0, 5, 2000, -1}, {6, 0, 0, 5, 2000, -1},
		{-10000, 0, -10000, -10000, 1, 1}, {10000, 0, 10000, 10000, 1, 1}, {-10000, 0, -9999, 10000, 1, -1}, {10000, 0, -10000, 9999, 1, -1},
		// A window of one place, which the item meets, over which it passes, and
		// at which it is already.
		{-9, 3, 0, 0, 0, 3}, {-10, 3, 0, 0, 0, -1}, {-8, 3, 0, 0, 0, -1}, {0, 3, 0, 0, 0, 0}, {0, 3, 0, 0, 1, -1}, {-9, 3, 0, 0, 3, 3}, {-9, 3, 0, 0, 4, -1}, {0, 0, 0, 0, 9, 9},
		// The first time is exactly MaxTime, and one later, by which there is no
		// time left.
		{-2000, 1, 0, 0, 0, 2000}, {-2001, 1, 0, 0, 0, -1}, {-1999, 1, 0, 0, 0, 1999}, {-2001, 1, 0, 10000, 0, -1},
		{-10000, 5, 0, 3, 0, 2000}, {-10000, 5, 1, 3, 0, -1}, {-10000, 5, -4, 3, 0, 2000}, {-10000, 5, -5, 3, 0, 1999}, {-10000, 10, 10000, 10000, 0, 2000}, {-10000, 9, 8000, 8000, 0, 2000}, {-10000, 9, 8001, 8008, 0, -1},
		{-4000, 2, 0, 1, 0, 2000}, {-4001, 2, 0, 1, 0, -1}, {-3999, 2, 0, 1, 0, 2000}, {-4000, 2, 0, 1, 2000, 2000}, {-4001, 2, 0, 1, 2000, -1},
		// The ready time is 0 and MaxTime.
		{0, 1, 0, 0, 0, 0}, {0, 1, 2000, 2000, 0, 2000}, {0, 1, 2000, 2000, 2000, 2000}, {0, 1, 1999, 1999, 2000, -1}, {0, 1, 2001, 2001, 2000, -1}, {0, 1, 0, 10000, 2000, 2000},
		// The greatest distance, from one end of the range to the other.
		{-10000, 200, 10000, 10000, 0, 100}, {-10000, 200, 9801, 9999, 0, -1}, {-10000, 200, 9800, 9999, 0, 99}, {-10000, 1, 10000, 10000, 0, -1}, {-10000, 199, 10000, 10000, 0, -1},
		// Invalid: high is less than low.
		{0, 1, 5, 0, 0, -1}, {3, 1, 5, 4, 0, -1}, {5, 0, 5, 4, 0, -1}, {4, 0, 5, 4, 0, -1}, {-10, 1, 10000, -10000, 0, -1},
		// Invalid: one argument just out of its range.
		{-10001, 1, -10000, 10000, 0, -1}, {10001, 1, -10000, 10000, 0, -1}, {0, -1, -10000, 10000, 0, -1}, {0, 201, -10000, 10000, 0, -1}, {-1, 201, 0, 500, 0, -1},
		{0, 1, -10001, 10000, 0, -1}, {0, 1, -10000, 10001, 0, -1}, {0, 1, -10000, 10000, -1, -1}, {0, 0, -10000, 10000, 2001, -1}, {0, 1, -10000, 10000, 2001, -1}, {-5, 1, 10001, 10001, 0, -1}, {-5, 1, -10001, -10001, 0, -1},
	} {
		if got := impl.PickTime(c.place, c.speed, c.low, c.high, c.ready); got != c.want {
			t.Errorf("PickTime(%d, %d, %d, %d, %d) is %d, not %d", c.place, c.speed, c.low, c.high, c.ready, got, c.want)
		}
	}
}

// checkPick expects valid arguments.
func checkPick(t *testing.T, b belt, place int, ready int) {
	got := b.pick(place, ready)
	if want := b.wantedPick(place, ready); got != want {
		t.Errorf("PickTime(%d, %d, %d, %d, %d) is %d, not %d", place, b.speed, b.low, b.high, ready, got, want)
	}
	if got != -1 && (got < ready || got > lastTime || !b.reaches(place, got)) {
		t.Errorf("PickTime(%d, %d, %d, %d, %d) is %d, when the item is not in the window", place, b.speed, b.low, b.high, ready, got)
	}
	if ready == lastTime {
		return
	}
	if later := b.pick(place, ready+1); later != -1 && (got == -1 || later < got) {
		t.Errorf("PickTime(%d, %d, %d, %d, %d) is %d, but %d before", place, b.speed, b.low, b.high, ready+1, later, got)
	}
}

// Promise 71, for all small arguments: places before, in and behind all small
// windows.
func TestItemsArePickedInTheWindow(t *testing.T) {
	for low := -4; low <= 4; low++ {
		for high := low; high <= 5; high++ {
			for speed := 0; speed <= 8; speed++ {
				for place := low - 18; place <= high+2; place++ {
					for ready := 0; ready <= 8; ready++ {
						checkPick(t, belt{speed, low, high}, place, ready)
					}
				}
			}
		}
	}
}

// Promise 71, for arguments at the ends of their ranges and in between.
func TestItemsArePickedInFarWindows(t *testing.T) {
	places := []int{-greatest, -greatest + 1, -4321, -1, 0, 1, 2000, greatest - 1, greatest}
	for _, low := range places {
		for _, high := range bounds(low, greatest, append(places, low, low+1, low+99, low+198, low+199)...) {
			for _, speed := range []int{0, 1, 2, 5, 9, 10, 11, 99, 100, fastest - 1, fastest} {
				for _, place := range bounds(-greatest, greatest, append(places, low-1, low-speed, low-speed-1, low-7*speed, high, high+1)...) {
					for _, ready := range []int{0, 1, 7, 100, lastTime - 1, lastTime} {
						checkPick(t, belt{speed, low, high}, place, ready)
					}
				}
			}
		}
	}
}

// Promise 71. The item is at the window, or just not, at the last times.
func TestItemsAreNotPickedAfterTheLastTime(t *testing.T) {
	for speed := 1; speed <= 10; speed++ {
		for _, low := range bounds(-greatest+speed*lastTime, greatest, -greatest+speed*lastTime, 0, 77, greatest-1, greatest) {
			for _, high := range bounds(low, greatest, low, low+1, low+speed-1, low+speed, greatest) {
				for place := low - speed*(lastTime+2); place <= low-speed*(lastTime-2); place++ {
					for _, ready := range []int{0, lastTime - 2, lastTime - 1, lastTime} {
						if place >= -greatest {
							checkPick(t, belt{speed, low, high}, place, ready)
						}
					}
				}
			}
		}
	}
}

// Promise 71. With every ready time, an item is picked at once while it is in the
// window, and it never is after it has passed it.
func TestItemsPassTheWindow(t *testing.T) {
	for _, b := range []belt{{1, 0, 0}, {1, 0, 300}, {3, 100, 101}, {3, 100, 102}, {7, -50, 800}, {7, 800, 806}, {200, 9000, 9999}, {10, -greatest, greatest}} {
		for _, place := range []int{-greatest, -9999, -1900, -101, -100, -99, -1, 0, 1, 100, 300, 301, greatest} {
			before := 0
			for ready := range lastTime + 1 {
				got := b.pick(place, ready)
				if want := b.wantedPick(place, ready); got != want {
					t.Errorf("PickTime(%d, %d, %d, %d, %d) is %d, not %d", place, b.speed, b.low, b.high, ready, got, want)
				}
				if got != -1 && (before == -1 || got < before) {
					t.Errorf("PickTime(%d, %d, %d, %d, %d) is %d, but %d before", place, b.speed, b.low, b.high, ready, got, before)
				}
				before = got
			}
		}
	}
}

// Promise 71. Moving the item together with the window changes nothing.
func TestOnlyTheDistanceFromTheWindowMatters(t *testing.T) {
	for _, b := range []belt{{0, 0, 5}, {1, 0, 0}, {3, 0, 5}, {7, 0, 5}, {7, 0, 6}, {fastest, 0, 150}} {
		for place := -1000; place <= 10; place += 1 + -place/50 {
			want := b.pick(place, 3)
			for _, by := range []int{-9000, -1, 1, 5000, 9850} {
				if got := (belt{b.speed, b.low + by, b.high + by}).pick(place+by, 3); got != want {
					t.Errorf("PickTime(%d, %d, %d, %d, 3) is %d, not %d", place+by, b.speed, b.low+by, b.high+by, got, want)
				}
			}
		}
	}
}

// Promise 134, for all places and ready times.
func TestItemsOnAStoppedConveyorStay(t *testing.T) {
	check := func(low int, high int, place int, ready int) {
		want := -1
		if low <= place && place <= high {
			want = ready
		}
		if got := impl.PickTime(place, 0, low, high, ready); got != want {
			t.Errorf("PickTime(%d, 0, %d, %d, %d) is %d, not %d", place, low, high, ready, got, want)
		}
	}
	for _, low := range []int{-greatest, -7, 0, 7, greatest} {
		for _, high := range bounds(low, greatest, low, low+1, low+9, greatest) {
			for place := -greatest; place <= greatest; place += 1 + absolute(place)/50 {
				check(low, high, place, 0)
				check(low, high, place, lastTime)
			}
			for _, place := range bounds(-greatest, greatest, -greatest, low-1, low, low+1, high-1, high, high+1, greatest) {
				for ready := range lastTime + 1 {
					check(low, high, place, ready)
				}
			}
		}
	}
}

// eachInvalidBelt calls a function with all conveyors that have at least one
// number out of its range, or the high end of the window before the low one.
func eachInvalidBelt(call func(b belt)) {
	for _, valid := range [][]int{{0, 0, 0}, {1, -greatest, greatest}, {fastest, -5, 5}, {3, 7, 7}, {0, -greatest, greatest}} {
		eachSpoiled(valid, pickRanges[1:4], func(args []int) { call(belt{args[0], args[1], args[2]}) })
	}
	for _, speed := range append(outOf(0, fastest), 0, 1, 2, fastest) {
		for _, low := range append([]int{-greatest + 1, -3, 0, 1, 2, greatest - 1, greatest}, extremes...) {
			for _, high := range append([]int{low - 1, low - 2, -low - 1, -greatest}, extremes...) {
				if high < low {
					call(belt{speed, low, high})
				}
			}
		}
	}
}

// Promises 71 and 134, for invalid arguments, also several of them together.
func TestPickTimeOfInvalidArguments(t *testing.T) {
	for _, valid := range [][]int{
		{0, 0, 0, 0, 0}, {0, 1, -greatest, greatest, 0}, {-greatest, fastest, -greatest, greatest, lastTime}, {greatest, 0, -greatest, greatest, lastTime}, {-10, 3, 0, 5, 0},
	} {
		eachSpoiled(valid, pickRanges, func(args []int) {
			if got := impl.PickTime(args[0], args[1], args[2], args[3], args[4]); got != -1 {
				t.Errorf("PickTime(%d, %d, %d, %d, %d) is %d", args[0], args[1], args[2], args[3], args[4], got)
			}
		})
	}
	eachInvalidBelt(func(b belt) {
		for _, place := range append(slices.Clone(extremes), -greatest-1, -greatest, b.high, 0, b.low, greatest, greatest+1) {
			for _, ready := range []int{-1, 0, 1, lastTime, lastTime + 1} {
				if got := b.pick(place, ready); got != -1 {
					t.Errorf("PickTime(%d, %d, %d, %d, %d) is %d", place, b.speed, b.low, b.high, ready, got)
				}
			}
		}
	})
	for _, n := range append([]int{-1, lastTime + 1, fastest + 1, greatest + 1, -greatest - 1}, extremes...) {
		if got := impl.PickTime(n, n, n, n, n); got != -1 {
			t.Errorf("PickTime(%d, %d, %d, %d, %d) is %d", n, n, n, n, n, got)
		}
	}
}
