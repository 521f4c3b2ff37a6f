package tests

import (
	"math"
	"slices"
	"testing"

	"loop.example/robotcell/impl"
)

const manyRows = impl.MaxRows

// move is a motion of an arm between two lists of angles.
type move struct {
	arm  impl.Arm
	from []int
	to   []int
}

func (m move) back() move {
	return move{m.arm, m.to, m.from}
}

func (m move) rows(top int, rise int) [][]int {
	return impl.MoveJoints(m.arm, m.from, m.to, top, rise)
}

func (m move) time(top int, rise int) int {
	return impl.MoveTime(m.arm, m.from, m.to, top, rise)
}

// freeMove is a move of an arm whose joints can take all angles.
func freeMove(from []int, to []int) move {
	return move{evenArm(-180, 180, slices.Repeat([]int{10}, len(from))...), from, to}
}

// mixedMoves have joints of which some move forward, some backward and some not
// at all, with differences that do not divide each other.
func mixedMoves() []move {
	return []move{
		freeMove([]int{0}, []int{10}),
		freeMove([]int{5}, []int{4}),
		freeMove([]int{-7}, []int{-100}),
		freeMove([]int{-180}, []int{180}),
		freeMove([]int{37}, []int{37}),
		freeMove([]int{0, 0}, []int{10, -5}),
		freeMove([]int{0, 0}, []int{-7, 3}),
		freeMove([]int{-7, 3}, []int{-18, -4}),
		freeMove([]int{-3, 50}, []int{-3, -51}),
		freeMove([]int{180, 179}, []int{-180, 180}),
		freeMove([]int{-180, 180}, []int{180, -180}),
		freeMove([]int{90, -45}, []int{90, -45}),
		freeMove([]int{0, 0, 0}, []int{7, -5, 0}),
		freeMove([]int{10, 20, 30}, []int{-3, 27, 30}),
		freeMove([]int{1, -1, 100}, []int{-40, 22, -17}),
		freeMove([]int{-180, 0, 180}, []int{-173, -11, 167}),
		freeMove([]int{180, 180, 180}, []int{179, 0, -180}),
		freeMove([]int{-180, 180, 0, 50}, []int{180, -180, 0, 49}),
		freeMove([]int{1, 2, 3, 4}, []int{-12, 25, 3, -13}),
		freeMove([]int{0, 0, 0, 0}, []int{-97, 61, -89, 13}),
		freeMove([]int{-1, -2, -3, -4}, []int{-1, -2, -3, -5}),
		freeMove([]int{-180, -180, 180, 180}, []int{-180, -180, 180, 180}),
	}
}

// sampleMoves adds moves between and within the limits of all valid arms.
func sampleMoves() []move {
	list := mixedMoves()
	for _, a := range validArms() {
		rows := append(someJoints(a), a.Low, a.High)
		for _, from := range rows {
			for _, to := range rows {
				list = append(list, move{a, from, to})
			}
		}
	}
	return list
}

// moveLimits are numbers for top and rise.
var moveLimits = [][2]int{{1, 1}, {3, 1}, {5, 2}, {1, steep}, {fastest, 1}, {13, 4}, {100, 7}, {fastest, steep}}

// wantedTurn is the greatest number of degrees that is at most the part of the
// turn that the motion has covered.
func wantedTurn(turn int, part int, whole int) int {
	moved := 0
	for (moved+1)*whole <= turn*part {
		moved++
	}
	return moved
}

func wantedRow(m move, part int, whole int) []int {
	var row []int
	for k, angle := range m.from {
		moved := wantedTurn(absolute(m.to[k]-angle), part, whole)
		if m.to[k] < angle {
			moved = -moved
		}
		row = append(row, angle+moved)
	}
	return row
}

func wantedRows(w wantedDrive, m move, top int) [][]int {
	whole := 0
	for k := range m.from {
		whole = max(whole, absolute(m.to[k]-m.from[k]))
	}
	var rows [][]int
	part := 0
	for _, speed := range w.profile(whole, top) {
		part += speed
		rows = append(rows, wantedRow(m, part, whole))
	}
	return rows
}

func equalRows[T comparable](a [][]T, b [][]T) bool {
	return slices.EqualFunc(a, b, slices.Equal[[]T])
}

// eachMove calls a function with all sample moves and all limits.
func eachMove(call func(w wantedDrive, m move, top int)) {
	moves := sampleMoves()
	for _, limits := range moveLimits {
		w := wantedDriveOf(limits[1])
		for _, m := range moves {
			call(w, m, limits[0])
		}
	}
}

func TestMaxRows(t *testing.T) {
	if impl.MaxRows != 400 {
		t.Fatalf("MaxRows is %d", impl.MaxRows)
	}
}

func TestMoveJointsExamples(t *testing.T) {
	for _, c := range []struct {
		from, to  []int
		top, rise int
		want      [][]int
	}{
		{[]int{0, 0}, []int{10, -5}, 3, 1, [][]int{{1, 0}, {3, -1}, {6, -3}, {8, -4}, {9, -4}, {10, -5}}},
		// The way back does not lead through the same angles.
		{[]int{10, -5}, []int{0, 0}, 3, 1, [][]int{{9, -5}, {7, -4}, {4, -2}, {2, -1}, {1, -1}, {0, 0}}},
		{[]int{0, 0}, []int{-10, 5}, 3, 1, [][]int{{-1, 0}, {-3, 1}, {-6, 3}, {-8, 4}, {-9, 4}, {-10, 5}}},
		// Turns of 2 and 1 while the joint with the greatest turn turns by 3.
		{[]int{0, 0, 0, 0}, []int{3, -2, -1, 0}, 1, 1, [][]int{{1, 0, 0, 0}, {2, -1, 0, 0}, {3, -2, -1, 0}}},
		{[]int{0, 0, 0, 0}, []int{-3, 2, 1, 0}, 1, 1, [][]int{{-1, 0, 0, 0}, {-2, 1, 0, 0}, {-3, 2, 1, 0}}},
		// Angles of either sign: the turn is rounded, not the angle.
		{[]int{-10, -10}, []int{-14, -7}, 1, 1, [][]int{{-11, -10}, {-12, -9}, {-13, -8}, {-14, -7}}},
		{[]int{-10, -10}, []int{-6, -13}, 1, 1, [][]int{{-9, -10}, {-8, -11}, {-7, -12}, {-6, -13}}},
		// One step, and none.
		{[]int{5, -5}, []int{-2, -2}, 9, 9, [][]int{{-2, -2}}},
		{[]int{5}, []int{4}, 1, 1, [][]int{{4}}},
		{[]int{0}, []int{0}, 1, 1, nil},
		{[]int{-180, 180, 7}, []int{-180, 180, 7}, fastest, steep, nil},
		// The greatest turns: the speeds are 50, 100, 120, 70 and 20.
		{[]int{-180, 180}, []int{180, -180}, fastest, steep, [][]int{{-130, 130}, {-30, 30}, {90, -90}, {160, -160}, {180, -180}}},
	} {
		m := freeMove(c.from, c.to)
		if got := m.rows(c.top, c.rise); !equalRows(got, c.want) {
			t.Errorf("MoveJoints from %v to %v with %d and %d is %v, not %v", c.from, c.to, c.top, c.rise, got, c.want)
		}
		if got := m.time(c.top, c.rise); got != len(c.want) {
			t.Errorf("MoveTime from %v to %v with %d and %d is %d, not %d", c.from, c.to, c.top, c.rise, got, len(c.want))
		}
	}
}

// checkStepOfMove expects the angles before and after a step.
func checkStepOfMove(t *testing.T, m move, before []int, row []int, top int) {
	if !impl.JointsValid(m.arm, row) {
		t.Errorf("a row from %v to %v is %v, not valid", m.from, m.to, row)
		return
	}
	for k, angle := range row {
		if !between(before[k], angle, m.to[k]) {
			t.Errorf("joint %d moves from %d to %d on the way to %d", k, before[k], angle, m.to[k])
		}
		if absolute(angle-before[k]) > top {
			t.Errorf("joint %d moves from %d to %d, by more than %d", k, before[k], angle, top)
		}
	}
}

// Promise 3.
func TestAllJointsArriveTogether(t *testing.T) {
	eachMove(func(w wantedDrive, m move, top int) {
		rows := m.rows(top, w.rise)
		if want := wantedRows(w, m, top); !equalRows(rows, want) {
			t.Errorf("MoveJoints(%v, %v, %v, %d, %d) is %v, not %v", m.arm, m.from, m.to, top, w.rise, rows, want)
			return
		}
		before := m.from
		for _, row := range rows {
			checkStepOfMove(t, m, before, row, top)
			before = row
		}
		if !slices.Equal(before, m.to) {
			t.Errorf("the motion from %v to %v ends at %v", m.from, m.to, before)
		}
	})
}

// Promise 3, for all turns of a second joint in either direction.
func TestTurnsThatDoNotDivideEachOther(t *testing.T) {
	w := wantedDriveOf(2)
	for whole := 1; whole <= 40; whole++ {
		for turn := -whole; turn <= whole; turn++ {
			for _, m := range []move{
				freeMove([]int{0, 0}, []int{whole, turn}),
				freeMove([]int{-9, 5}, []int{-9 - whole, 5 + turn}),
				freeMove([]int{60, 0, -60}, []int{60 + turn, 0, -60 - whole}),
				freeMove([]int{turn, 1, 0, -1}, []int{0, 1 + whole, -turn, -1}),
			} {
				for _, top := range []int{1, 5} {
					if got, want := m.rows(top, 2), wantedRows(w, m, top); !equalRows(got, want) {
						t.Errorf("MoveJoints from %v to %v with %d and 2 is %v, not %v", m.from, m.to, top, got, want)
					}
				}
			}
		}
	}
}

// Promise 3. The joint with the greatest turn moves as MotionProfile says, and
// a motion of all joints by the same turns moves them alike.
func TestTheGreatestTurnFollowsTheProfile(t *testing.T) {
	for _, limits := range moveLimits {
		for turn := 1; turn <= 360; turn++ {
			m := freeMove([]int{-180, 180, 0}, []int{-180 + turn, 180 - turn, 0})
			rows, profile := m.rows(limits[0], limits[1]), impl.MotionProfile(turn, limits[0], limits[1])
			if len(rows) != len(profile) {
				t.Errorf("a turn by %d has %d rows, not %d", turn, len(rows), len(profile))
				continue
			}
			part := 0
			for k, row := range rows {
				part += profile[k]
				if !slices.Equal(row, []int{-180 + part, 180 - part, 0}) {
					t.Errorf("row %d of a turn by %d is %v", k, turn, row)
				}
			}
		}
	}
}

func TestMoveTimeExamples(t *testing.T) {
	a := arm([]int{10, 10}, []int{-90, 5}, []int{90, 5})
	for _, c := range []struct {
		from, to        []int
		top, rise, want int
	}{
		{[]int{0, 5}, []int{10, 5}, 3, 1, 6},
		{[]int{10, 5}, []int{0, 5}, 3, 1, 6},
		{[]int{-90, 5}, []int{90, 5}, 1, 1, 180},
		{[]int{90, 5}, []int{-90, 5}, 1, steep, 180},
		{[]int{90, 5}, []int{-90, 5}, fastest, steep, 3},
		{[]int{0, 5}, []int{1, 5}, 1, 1, 1},
		{[]int{0, 5}, []int{-1, 5}, fastest, steep, 1},
		{[]int{0, 5}, []int{0, 5}, 3, 1, 0},
		{[]int{90, 5}, []int{90, 5}, 1, 1, 0},
		{[]int{0}, []int{0, 5}, 3, 1, -1},
		{[]int{0, 5}, []int{0}, 3, 1, -1},
		{[]int{0, 5, 0}, []int{0, 5}, 3, 1, -1},
		{[]int{0, 5}, []int{0, 5, 0}, 3, 1, -1},
		{[]int{0, 4}, []int{0, 4}, 3, 1, -1},
		{[]int{91, 5}, []int{90, 5}, 3, 1, -1},
		{[]int{90, 5}, []int{91, 5}, 3, 1, -1},
		{[]int{-91, 5}, []int{90, 5}, 3, 1, -1},
		{nil, nil, 3, 1, -1},
		{[]int{0, 5}, []int{0, 5}, 0, 1, -1},
		{[]int{0, 5}, []int{0, 5}, fastest + 1, 1, -1},
		{[]int{0, 5}, []int{0, 5}, 3, 0, -1},
		{[]int{0, 5}, []int{0, 5}, 3, steep + 1, -1},
	} {
		if got := impl.MoveTime(a, c.from, c.to, c.top, c.rise); got != c.want {
			t.Errorf("MoveTime from %v to %v with %d and %d is %d, not %d", c.from, c.to, c.top, c.rise, got, c.want)
		}
	}
}

// Promise 41.
func TestMovingBackTakesAsLong(t *testing.T) {
	eachMove(func(w wantedDrive, m move, top int) {
		got := m.time(top, w.rise)
		if got != len(m.rows(top, w.rise)) || got != len(wantedRows(w, m, top)) {
			t.Errorf("MoveTime from %v to %v with %d and %d is %d", m.from, m.to, top, w.rise, got)
		}
		back := m.back()
		if got != back.time(top, w.rise) || got != len(back.rows(top, w.rise)) {
			t.Errorf("MoveTime from %v to %v with %d and %d is %d, but not back", m.from, m.to, top, w.rise, got)
		}
		if (got == 0) != slices.Equal(m.from, m.to) {
			t.Errorf("MoveTime from %v to %v with %d and %d is %d", m.from, m.to, top, w.rise, got)
		}
	})
}

// eachInvalidMove calls a function with an invalid arm or invalid angles on
// either side or on both, and with limits out of range.
func eachInvalidMove(call func(m move, top int, rise int)) {
	for _, a := range validArms() {
		for _, joints := range wrongOrBeyond(a) {
			for _, m := range []move{{a, joints, a.High}, {a, a.Low, joints}, {a, joints, joints}} {
				call(m, 3, 1)
				call(m, fastest, steep)
				call(m, 0, steep+1)
			}
		}
		for _, m := range []move{{a, a.Low, a.High}, {a, a.High, a.Low}, {a, a.Low, a.Low}} {
			for _, top := range outOf(1, fastest) {
				call(m, top, 1)
				call(m, top, steep)
				call(m, top, top)
			}
			for _, rise := range outOf(1, steep) {
				call(m, 1, rise)
				call(m, fastest, rise)
			}
		}
	}
	for _, a := range invalidArms() {
		for _, joints := range anyJoints(a) {
			call(move{a, joints, joints}, 3, 1)
			call(move{a, a.Low, joints}, fastest, steep)
			call(move{a, joints, a.High}, 0, 0)
		}
	}
}

// Promises 3 and 41, for invalid arguments.
func TestInvalidMoves(t *testing.T) {
	eachInvalidMove(func(m move, top int, rise int) {
		if got := m.rows(top, rise); len(got) != 0 {
			t.Errorf("MoveJoints(%v, %v, %v, %d, %d) is %v", m.arm, m.from, m.to, top, rise, got)
		}
		if got := m.time(top, rise); got != -1 {
			t.Errorf("MoveTime(%v, %v, %v, %d, %d) is %d", m.arm, m.from, m.to, top, rise, got)
		}
	})
}

func (m move) roomy() move {
	return move{arm(roomy(m.arm.Links), roomy(m.arm.Low), roomy(m.arm.High)), roomy(m.from), roomy(m.to)}
}

// lists are all lists of a move, together with their spare capacity.
func (m move) lists() [][]int {
	return [][]int{whole(m.arm.Links), whole(m.arm.Low), whole(m.arm.High), whole(m.from), whole(m.to)}
}

func copyRows[T any](rows [][]T) [][]T {
	var list [][]T
	for _, row := range rows {
		list = append(list, slices.Clone(row))
	}
	return list
}

func isFilled(list []int, value int) bool {
	return !slices.ContainsFunc(list, func(n int) bool { return n != value })
}

// checkMoveMemory overwrites one result row by row, and then the arguments.
// Nothing else may be affected.
func checkMoveMemory(t *testing.T, m move, top int, rise int) {
	given := m.roomy()
	before := copyRows(given.lists())
	rows, kept := given.rows(top, rise), given.rows(top, rise)
	given.time(top, rise)
	if !equalRows(given.lists(), before) {
		t.Errorf("the arguments %v are changed", m)
	}
	want := copyRows(kept)
	for k, row := range rows {
		fill(whole(row), 1000+k)
	}
	for k, row := range rows {
		if !isFilled(whole(row), 1000+k) {
			t.Errorf("row %d of the motion %v shares memory with another row", k, m)
		}
	}
	fill(whole(rows), nil)
	if !equalRows(given.lists(), before) {
		t.Errorf("a row of the motion %v shares memory with an argument", m)
	}
	for _, list := range given.lists() {
		fill(list, 888)
	}
	if !equalRows(kept, want) {
		t.Errorf("a row of the motion %v shares memory with an argument or a second result", m)
	}
}

// Promise 3.
func TestMovesChangeAndShareNothing(t *testing.T) {
	for _, m := range sampleMoves() {
		for _, limits := range moveLimits {
			checkMoveMemory(t, m, limits[0], limits[1])
		}
	}
	eachInvalidMove(func(m move, top int, rise int) {
		checkMoveMemory(t, m, top, rise)
	})
}

// Promise 3. Appending to a row does not reach the row after it.
func TestRowsCanBeExtended(t *testing.T) {
	for _, m := range mixedMoves() {
		rows := m.rows(5, 2)
		want := copyRows(rows)
		for k := range rows {
			_ = append(rows[k], 555, 555, 555, 555)
		}
		if !equalRows(rows, want) {
			t.Errorf("the rows of %v are %v after appending to them, not %v", m, rows, want)
		}
	}
}

func TestLinePointsExamples(t *testing.T) {
	for _, c := range []struct {
		a, b impl.Point
		n    int
		want []impl.Point
	}{
		{point(0, 0), point(10, -5), 4, []impl.Point{{}, point(2, -2), point(5, -3), point(7, -4), point(10, -5)}},
		{point(10, -5), point(0, 0), 4, []impl.Point{point(10, -5), point(7, -4), point(5, -3), point(2, -2), point(0, 0)}},
		{point(0, 0), point(-10, 5), 4, []impl.Point{{}, point(-3, 1), point(-5, 2), point(-8, 3), point(-10, 5)}},
		{point(1, 2), point(4, -8), 1, []impl.Point{point(1, 2), point(4, -8)}},
		{point(1, 2), point(4, -7), 2, []impl.Point{point(1, 2), point(2, -3), point(4, -7)}},
		{point(-1, -2), point(-4, 7), 2, []impl.Point{point(-1, -2), point(-3, 2), point(-4, 7)}},
		{point(5, 5), point(6, 4), 3, []impl.Point{point(5, 5), point(5, 4), point(5, 4), point(6, 4)}},
		{point(7, -7), point(7, -7), 3, []impl.Point{point(7, -7), point(7, -7), point(7, -7), point(7, -7)}},
		{point(-greatest, greatest), point(greatest, -greatest), 3, []impl.Point{
			point(-greatest, greatest), point(-3334, 3333), point(3333, -3334), point(greatest, -greatest),
		}},
		{point(0, 0), point(10, 10), 0, nil},
		{point(0, 0), point(10, 10), -1, nil},
		{point(0, 0), point(10, 10), manyRows + 1, nil},
		{point(0, 0), point(10001, 10), 2, nil},
		{point(0, -10001), point(10, 10), 2, nil},
	} {
		if got := impl.LinePoints(c.a, c.b, c.n); !slices.Equal(got, c.want) {
			t.Errorf("LinePoints(%v, %v, %d) is %v, not %v", c.a, c.b, c.n, got, c.want)
		}
	}
}

// isPart reports whether a coordinate is k n-ths of the way from one to the
// other, rounded down.
func isPart(c int, from int, to int, k int, n int) bool {
	moved, way := c-from, to-from
	return n*moved <= k*way && k*way < n*(moved+1)
}

func checkLine(t *testing.T, a impl.Point, b impl.Point, n int) {
	got := impl.LinePoints(a, b, n)
	if len(got) != n+1 {
		t.Errorf("LinePoints(%v, %v, %d) has %d points", a, b, n, len(got))
		return
	}
	if got[0] != a || got[n] != b {
		t.Errorf("LinePoints(%v, %v, %d) begins at %v and ends at %v", a, b, n, got[0], got[n])
	}
	for k, p := range got {
		if !isPart(p.X, a.X, b.X, k, n) || !isPart(p.Y, a.Y, b.Y, k, n) {
			t.Errorf("point %d of LinePoints(%v, %v, %d) is %v", k, a, b, n, p)
		}
		if !between(a.X, p.X, b.X) || !between(a.Y, p.Y, b.Y) {
			t.Errorf("point %d of LinePoints(%v, %v, %d) is %v, out of the box", k, a, b, n, p)
		}
	}
}

// Promise 42.
func TestLinesBeginAndEndAtTheirPoints(t *testing.T) {
	for x := -9; x <= 9; x++ {
		for y := -9; y <= 9; y++ {
			for n := 1; n <= 12; n++ {
				checkLine(t, point(0, 0), point(x, y), n)
				checkLine(t, point(x, y), point(3, -5), n)
			}
		}
	}
	for n := 1; n <= manyRows; n++ {
		checkLine(t, point(-greatest, greatest), point(greatest, -greatest), n)
		checkLine(t, point(greatest, greatest), point(-greatest, 1-greatest), n)
		checkLine(t, point(-7, 6), point(94, -395), n)
		checkLine(t, point(5, 5), point(5, 5), n)
	}
}

// Promise 42, between points at and near the bounds.
func TestLinesBetweenFarPoints(t *testing.T) {
	coordinates := []int{-greatest, -greatest + 1, -7, 0, 5, greatest - 1, greatest}
	for _, ax := range coordinates {
		for _, ay := range coordinates {
			for _, bx := range coordinates {
				for _, by := range coordinates {
					for _, n := range []int{1, 2, 3, 7, 64, manyRows - 1, manyRows} {
						checkLine(t, point(ax, ay), point(bx, by), n)
					}
				}
			}
		}
	}
}

// Promise 42, for invalid arguments.
func TestInvalidLines(t *testing.T) {
	check := func(a impl.Point, b impl.Point, n int) {
		if got := impl.LinePoints(a, b, n); len(got) != 0 {
			t.Errorf("LinePoints(%v, %v, %d) is %v", a, b, n, got)
		}
	}
	for _, n := range outOf(1, manyRows) {
		check(point(0, 0), point(10, -5), n)
		check(point(4, 4), point(4, 4), n)
		check(point(-greatest, -greatest), point(greatest, greatest), n)
	}
	for _, bad := range invalidPoints() {
		for _, n := range []int{1, 2, manyRows, 0, -1, manyRows + 1, math.MinInt, math.MaxInt} {
			check(bad, point(0, 0), n)
			check(point(0, 0), bad, n)
			check(bad, point(greatest, -greatest), n)
			check(point(-greatest, greatest), bad, n)
			check(bad, bad, n)
		}
	}
}

func TestArcPointsExamples(t *testing.T) {
	for _, c := range []struct {
		center                 impl.Point
		radius, from, to, step int
		want                   []impl.Point
	}{
		{point(5, 5), 10, 0, 180, 90, []impl.Point{point(15, 5), point(5, 15), point(-5, 5)}},
		{point(5, 5), 10, -90, 180, 180, []impl.Point{point(5, -5), point(5, 15)}},
		{point(0, 0), 100, 0, 100, 30, []impl.Point{point(100, 0), point(87, 50), point(50, 87), point(0, 100)}},
		{point(0, 0), 100, 0, 89, 30, []impl.Point{point(100, 0), point(87, 50), point(50, 87)}},
		{point(0, 0), 100, -45, -40, 6, []impl.Point{point(71, -71)}},
		{point(1, 2), 100, 45, 45, 1, []impl.Point{point(72, 73)}},
		{point(1, 2), 100, 45, 45, 360, []impl.Point{point(72, 73)}},
		{point(3, -3), 7, -360, 360, 360, []impl.Point{point(10, -3), point(10, -3), point(10, -3)}},
		{point(3, -3), 7, 360, 360, 360, []impl.Point{point(10, -3)}},
		{point(3, -3), 7, -360, -360, 1, []impl.Point{point(10, -3)}},
		{point(3, -3), 7, -360, -1, 360, []impl.Point{point(10, -3)}},
		{point(3, -3), 7, -359, 0, 360, []impl.Point{point(10, -3)}},
		{point(0, 0), 1, 0, 360, 90, []impl.Point{point(1, 0), point(0, 1), point(-1, 0), point(0, -1), point(1, 0)}},
		{point(0, 0), 1, 60, 120, 60, []impl.Point{point(1, 1), point(0, 1)}},
		{point(0, 0), 500, 30, 60, 30, []impl.Point{point(433, 250), point(250, 433)}},
		// Only the center must be in range.
		{point(greatest, -greatest), 500, 0, 270, 90, []impl.Point{
			point(greatest+500, -greatest), point(greatest, 500-greatest), point(greatest-500, -greatest), point(greatest, -greatest-500),
		}},
		{point(0, 0), 0, 0, 90, 90, nil},
		{point(0, 0), 501, 0, 90, 90, nil},
		{point(0, 0), 10, 90, 89, 1, nil},
		{point(0, 0), 10, 0, 90, 0, nil},
		{point(0, 0), 10, 0, 90, 361, nil},
		{point(0, 0), 10, -361, 90, 90, nil},
		{point(0, 0), 10, 0, 361, 90, nil},
		{point(10001, 0), 10, 0, 90, 90, nil},
	} {
		if got := impl.ArcPoints(c.center, c.radius, c.from, c.to, c.step); !slices.Equal(got, c.want) {
			t.Errorf("ArcPoints(%v, %d, %d, %d, %d) is %v, not %v", c.center, c.radius, c.from, c.to, c.step, got, c.want)
		}
	}
}

// wantedArc is the points for a center at the origin, given the vectors of the
// radius: it tries all directions between from and to.
func wantedArc(vectors []impl.Point, from int, to int, step int) []impl.Point {
	var list []impl.Point
	for d := from; d <= to; d++ {
		if (d-from)%step == 0 {
			list = append(list, vectors[(d+360)%360])
		}
	}
	return list
}

func checkArc(t *testing.T, center impl.Point, radius int, from int, to int, step int, want []impl.Point) {
	got := impl.ArcPoints(center, radius, from, to, step)
	if len(got) != len(want) || len(got) != (to-from)/step+1 {
		t.Errorf("ArcPoints(%v, %d, %d, %d, %d) has %d points, not %d", center, radius, from, to, step, len(got), len(want))
		return
	}
	for k, p := range got {
		way := point(p.X-center.X, p.Y-center.Y)
		if way != want[k] {
			t.Errorf("point %d of ArcPoints(%v, %d, %d, %d, %d) is %v", k, center, radius, from, to, step, p)
		}
		if math.Abs(distanceFromOrigin(way)-float64(radius)) > 1 {
			t.Errorf("point %d of ArcPoints(%v, %d, %d, %d, %d) has the distance %f", k, center, radius, from, to, step, distanceFromOrigin(way))
		}
	}
}

// Promise 43.
func TestArcsKeepTheirDistance(t *testing.T) {
	directions := []int{-360, -359, -271, -180, -90, -1, 0, 1, 30, 45, 60, 90, 180, 359, 360}
	centers := []impl.Point{{}, point(5, 5), point(-7, 3), point(greatest, -greatest), point(-greatest, greatest)}
	for _, radius := range []int{1, 2, 3, 250, 499, impl.MaxLength} {
		vectors := vectorsOf(radius)
		for _, from := range directions {
			for _, to := range directions {
				for _, step := range []int{1, 2, 7, 30, 89, 90, 91, 180, 359, 360} {
					if to < from {
						continue
					}
					want := wantedArc(vectors, from, to, step)
					for _, center := range centers {
						checkArc(t, center, radius, from, to, step, want)
					}
				}
			}
		}
	}
}

// Promise 43, for every radius and every step.
func TestArcsOfAllRadiiAndSteps(t *testing.T) {
	for radius := 1; radius <= impl.MaxLength; radius++ {
		vectors := vectorsOf(radius)
		checkArc(t, point(-3, 8), radius, -360, 360, 1, wantedArc(vectors, -360, 360, 1))
	}
	vectors := vectorsOf(77)
	for step := 1; step <= 360; step++ {
		checkArc(t, point(-3, 8), 77, -360, 360, step, wantedArc(vectors, -360, 360, step))
		checkArc(t, point(-3, 8), 77, -step, step, step, wantedArc(vectors, -step, step, step))
		checkArc(t, point(-3, 8), 77, 0, step-1, step, wantedArc(vectors, 0, step-1, step))
	}
}

// Promise 43, for invalid arguments: one of them, and several.
func TestInvalidArcs(t *testing.T) {
	check := func(center impl.Point, radius int, from int, to int, step int) {
		if got := impl.ArcPoints(center, radius, from, to, step); len(got) != 0 {
			t.Errorf("ArcPoints(%v, %d, %d, %d, %d) is %v", center, radius, from, to, step, got)
		}
	}
	for _, bad := range invalidPoints() {
		check(bad, 10, 0, 180, 90)
		check(bad, impl.MaxLength, -360, 360, 1)
		check(bad, 0, 0, 180, 90)
	}
	for _, valid := range [][4]int{{1, -360, -360, 360}, {impl.MaxLength, -360, 360, 1}, {10, 0, 90, 90}, {9, 360, 360, 1}} {
		for _, radius := range outOf(1, impl.MaxLength) {
			check(point(5, 5), radius, valid[1], valid[2], valid[3])
		}
		for _, d := range outOf(-360, 360) {
			check(point(5, 5), valid[0], d, valid[2], valid[3])
			check(point(5, 5), valid[0], valid[1], d, valid[3])
			check(point(5, 5), valid[0], d, d, valid[3])
		}
		for _, step := range outOf(1, 360) {
			check(point(5, 5), valid[0], valid[1], valid[2], step)
		}
	}
	check(point(5, 5), 10, math.MinInt, math.MaxInt, 1)
	check(point(5, 5), 10, math.MaxInt, math.MaxInt, math.MaxInt)
	for from := -360; from <= 360; from++ {
		check(point(0, 0), 10, from, from-1, 1)
		check(point(0, 0), 10, from, -361, 360)
		check(point(0, 0), 10, 360, from-1, 7)
	}
}

// checkPointsMemory overwrites a result together with its spare capacity.
func checkPointsMemory(t *testing.T, points func() []impl.Point) {
	kept, first, after := points(), points(), points()
	want := slices.Clone(kept)
	fill(whole(first), point(777, 777))
	if !slices.Equal(kept, want) || !slices.Equal(after, want) || !slices.Equal(points(), want) {
		t.Errorf("two results with %d points share memory", len(want))
	}
	fill(whole(kept), point(888, 888))
	fill(whole(after), point(999, 999))
	if slices.ContainsFunc(whole(first), func(p impl.Point) bool { return p != point(777, 777) }) {
		t.Errorf("two results with %d points share memory", len(want))
	}
}

// Promises 42 and 43.
func TestLinesAndArcsShareNoMemory(t *testing.T) {
	for _, n := range []int{1, 2, 5, 100, manyRows} {
		checkPointsMemory(t, func() []impl.Point { return impl.LinePoints(point(1, 2), point(30, -40), n) })
	}
	for _, step := range []int{1, 7, 90, 360} {
		checkPointsMemory(t, func() []impl.Point { return impl.ArcPoints(point(1, 2), 50, -360, 360, step) })
	}
}
