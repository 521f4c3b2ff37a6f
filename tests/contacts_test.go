package tests

import (
	"slices"
	"testing"

	"loop.example/robotcell/impl"
)

// wantedSelfClear expects valid angles.
func wantedSelfClear(a impl.Arm, joints []int) bool {
	ends := pointsByRotation(a.Links, joints)
	for j := range a.Links {
		for i := range j - 1 {
			if meetByShares(ends[i], ends[i+1], ends[j], ends[j+1]) {
				return false
			}
		}
	}
	return true
}

func TestSelfClearExamples(t *testing.T) {
	for _, c := range []struct {
		links, joints []int
		want          bool
	}{
		// One link or two, also folded back.
		{[]int{1}, []int{0}, true},
		{[]int{500}, []int{-180}, true},
		{[]int{10, 10}, []int{0, 180}, true},
		{[]int{10, 10}, []int{90, -180}, true},
		{[]int{10, 500}, []int{0, 180}, true},
		{[]int{10, 3}, []int{-45, 180}, true},
		// The first and the third link: side by side, and across each other.
		{[]int{10, 10, 10}, []int{0, 90, 90}, true},
		{[]int{10, 1, 10}, []int{0, 90, 90}, true},
		{[]int{10, 1, 10}, []int{180, -90, -90}, true},
		{[]int{100, 50, 100}, []int{0, 120, 120}, false},
		{[]int{100, 50, 100}, []int{0, -120, -120}, false},
		{[]int{100, 50, 100}, []int{0, 120, 20}, true},
		{[]int{100, 50, 100}, []int{77, 120, 120}, false},
		// The third link ends on the first one, beyond it, or one unit before it.
		{[]int{10, 10, 7}, []int{0, 135, 135}, false},
		{[]int{10, 10, 6}, []int{0, 135, 135}, true},
		{[]int{30, 14, 10}, []int{0, 135, 135}, false},
		{[]int{30, 14, 11}, []int{0, 135, 135}, false},
		{[]int{30, 14, 9}, []int{0, 135, 135}, true},
		// It ends on the end of the first one: on the base, or beside it.
		{[]int{10, 14, 10}, []int{0, 135, 135}, false},
		{[]int{9, 14, 10}, []int{0, 135, 135}, true},
		{[]int{11, 14, 10}, []int{0, 135, 135}, false},
		// Folded back: upon the whole first link, a stretch of it, and its end.
		{[]int{10, 10, 10}, []int{0, 180, 180}, false},
		{[]int{10, 10, 10}, []int{0, 180, 0}, false},
		{[]int{10, 20, 5}, []int{0, 180, 0}, true},
		{[]int{10, 20, 5}, []int{0, 180, 180}, true},
		{[]int{10, 20, 9}, []int{0, 180, 180}, true},
		{[]int{10, 20, 10}, []int{0, 180, 180}, false},
		{[]int{10, 20, 11}, []int{0, 180, 180}, false},
		{[]int{10, 10, 9}, []int{0, 0, 180}, true},
		{[]int{10, 10, 10}, []int{0, 0, 180}, false},
		{[]int{10, 10, 11}, []int{0, 0, 180}, false},
		{[]int{10, 10, 25}, []int{0, 0, 180}, false},
		{[]int{10, 4, 5}, []int{0, 180, 0}, false},
		{[]int{10, 10, 5}, []int{0, 180, 90}, false},
		{[]int{10, 9, 5}, []int{0, 180, 90}, false},
		{[]int{10, 11, 5}, []int{0, 180, 90}, true},
		// The first and the last of four links.
		{[]int{10, 10, 10, 9}, []int{0, 90, 90, 90}, true},
		{[]int{10, 10, 10, 10}, []int{0, 90, 90, 90}, false},
		{[]int{10, 10, 10, 11}, []int{0, 90, 90, 90}, false},
		{[]int{10, 10, 9, 11}, []int{0, 90, 90, 90}, false},
		{[]int{10, 10, 11, 11}, []int{0, 90, 90, 90}, true},
		{[]int{10, 10, 10, 11}, []int{0, -90, -90, -90}, false},
		{[]int{10, 10, 10, 9}, []int{0, -90, -90, -90}, true},
		// The second and the last one, and the first and the third of four.
		{[]int{10, 10, 10, 9}, []int{0, 0, 0, 180}, true},
		{[]int{10, 10, 10, 10}, []int{0, 0, 0, 180}, false},
		{[]int{10, 100, 50, 100}, []int{0, 0, 120, 120}, false},
		{[]int{10, 100, 50, 100}, []int{0, 0, 120, 20}, true},
		{[]int{10, 100, 50, 100}, []int{0, 90, 120, 120}, false},
		{[]int{100, 50, 100, 10}, []int{0, 120, 120, 0}, false},
		{[]int{100, 50, 100, 10}, []int{0, 120, 20, 0}, true},
		{[]int{1, 1, 1, 1}, []int{180, 180, 180, 180}, false},
		// Stairs.
		{[]int{40, 40, 40, 40}, []int{0, 90, -90, 90}, true},
		// Too many angles, or too few, or out of range.
		{[]int{10}, []int{181}, false},
		{[]int{10}, nil, false},
		{[]int{10}, []int{0, 0}, false},
		{[]int{10, 10}, []int{0}, false},
		{[]int{10, 10}, []int{0, -181}, false},
		{[]int{10, 10, 10}, []int{0, 0}, false},
		{[]int{10, 10, 10}, []int{0, 0, 0, 0}, false},
		{nil, nil, false},
		{[]int{10, 10, 10, 10, 10}, []int{0, 0, 0, 0, 0}, false},
		{[]int{501}, []int{0}, false},
		{[]int{10, 0}, []int{0, 0}, false},
	} {
		if got := impl.SelfClear(evenArm(-180, 180, c.links...), c.joints); got != c.want {
			t.Errorf("SelfClear of the links %v at %v is %v", c.links, c.joints, got)
		}
	}
}

// Promise 59. Two links are always consecutive.
func TestShortArmsCannotMeetThemselves(t *testing.T) {
	lengths := []int{1, 2, 3, 71, 250, 500}
	for _, first := range lengths {
		for angle := -180; angle <= 180; angle++ {
			if !impl.SelfClear(evenArm(-180, 180, first), []int{angle}) {
				t.Errorf("a link of length %d at %d degrees is not clear of itself", first, angle)
			}
			for _, second := range lengths {
				a := evenArm(-180, 180, first, second)
				for _, joints := range [][]int{{0, angle}, {angle, 0}, {angle, 180}, {angle, -180}, {angle, angle}, {angle, -angle}, {angle / 3, angle}} {
					if !impl.SelfClear(a, joints) {
						t.Errorf("two links %v at %v are not clear of each other", a.Links, joints)
					}
				}
			}
		}
	}
}

// Promise 59.
func TestStretchedArmsAreClearOfThemselves(t *testing.T) {
	for n := 1; n <= impl.MaxLinks; n++ {
		for set := range 1 << (2 * n) {
			links := make([]int, n)
			for k := range links {
				links[k] = []int{1, 2, 71, 500}[set>>(2*k)&3]
			}
			for _, a := range []impl.Arm{evenArm(-180, 180, links...), evenArm(0, 0, links...), evenArm(-1, 0, links...)} {
				if !impl.SelfClear(a, make([]int, n)) {
					t.Errorf("the stretched arm %v is not clear of itself", a)
				}
			}
		}
	}
	for _, a := range validArms() {
		straight := make([]int, len(a.Links))
		if got := impl.SelfClear(a, straight); got != impl.JointsValid(a, straight) {
			t.Errorf("%v with all angles 0 is clear of itself: %v", a, got)
		}
	}
}

// checkSelf returns whether the arm is clear of itself.
func checkSelf(t *testing.T, a impl.Arm, joints []int) bool {
	got := impl.SelfClear(a, joints)
	if got != wantedSelfClear(a, joints) {
		t.Errorf("SelfClear(%v, %v) is %v", a, joints, got)
	}
	return got
}

// Promise 59, for arms with every number of links, in contact with themselves
// and not.
func TestArmsThatMeetThemselves(t *testing.T) {
	arms := append(validArms(), evenArm(-120, 150, 100, 50, 100), evenArm(-150, 120, 60, 100, 60, 100), evenArm(-100, 100, 100, 90, 80, 70), evenArm(60, 160, 40, 41, 42, 43))
	for _, a := range arms {
		clear := 0
		rows := sampleJoints(a)
		for _, joints := range rows {
			if checkSelf(t, a, joints) {
				clear++
			}
		}
		if len(a.Links) < 3 && clear < len(rows) {
			t.Errorf("%v is clear of itself at %d of %d angles", a, clear, len(rows))
		}
	}
}

// Promise 59. The last link turns past the first and the second one.
func TestTheLastLinkTurns(t *testing.T) {
	for angle := -180; angle <= 180; angle++ {
		for _, bend := range []int{-170, -135, -90, -45, 0, 1, 60, 90, 120, 179, 180} {
			for _, base := range []int{-30, 0, 90} {
				checkSelf(t, evenArm(-180, 180, 100, 50, 100), []int{base, bend, angle})
				checkSelf(t, evenArm(-180, 180, 100, 30, 70), []int{base, bend, angle})
				checkSelf(t, evenArm(-180, 180, 100, 50, 100, 20), []int{base, bend, angle, 0})
				checkSelf(t, evenArm(-180, 180, 100, 50, 60, 80), []int{base, bend, 90, angle})
				checkSelf(t, evenArm(-180, 180, 7, 100, 50, 100), []int{base, 45, bend, angle})
			}
		}
	}
}

// Promise 59, for invalid arguments.
func TestSelfClearOfInvalidArguments(t *testing.T) {
	for _, a := range validArms() {
		for _, joints := range wrongOrBeyond(a) {
			if impl.SelfClear(a, joints) {
				t.Errorf("SelfClear(%v, %v) is true", a, joints)
			}
		}
	}
	for _, a := range invalidArms() {
		for _, joints := range anyJoints(a) {
			if impl.SelfClear(a, joints) {
				t.Errorf("SelfClear(%v, %v) is true", a, joints)
			}
		}
	}
}

// The crane has one link, which meets the post at 0 degrees and at few degrees
// beside it.
var (
	crane = evenArm(-90, 90, 100)
	post  = [][]impl.Point{pointsOf(50, -5, 60, -5, 55, 5)}
)

// craneRows are rows of angles of the crane, all of which are clear of the post.
func craneRows(n int) [][]int {
	var rows [][]int
	for k := range n {
		rows = append(rows, []int{[]int{90, 45, 60, -45, -90}[k%5]})
	}
	return rows
}

// withRow is a list of rows with one replaced.
func withRow(rows [][]int, k int, row []int) [][]int {
	other := slices.Clone(rows)
	other[k] = row
	return other
}

// contactRows count as a contact of the crane: the first meets the post, and
// the others are not valid.
var contactRows = [][]int{
	{0}, nil, {}, {-91}, {91}, {45, 0}, {45, 45}, {extremes[0]}, {extremes[5]}, make([]int, 1000),
}

func TestFirstContactExamples(t *testing.T) {
	for _, c := range []struct {
		rows      [][]int
		obstacles [][]impl.Point
		want      int
	}{
		// No rows, no contact, and no obstacles.
		{nil, post, -1},
		{[][]int{}, post, -1},
		{nil, nil, -1},
		{[][]int{}, [][]impl.Point{}, -1},
		{[][]int{{90}}, post, -1},
		{[][]int{{90}, {45}, {-45}}, post, -1},
		{[][]int{{0}, {1}, {90}}, nil, -1},
		{[][]int{{0}}, [][]impl.Point{}, -1},
		{[][]int{{0}, {1}, {90}}, farScene(), -1},
		// The first contact, of one and of several.
		{[][]int{{0}}, post, 0},
		{[][]int{{0}, {45}, {90}}, post, 0},
		{[][]int{{45}, {0}, {90}}, post, 1},
		{[][]int{{90}, {45}, {0}}, post, 2},
		{[][]int{{90}, {0}, {0}, {45}, {0}}, post, 1},
		{[][]int{{90}, {45}, {0}, {91}}, post, 2},
		{[][]int{{0}, {0}, {0}}, post, 0},
		// Rows that are not valid, also behind a contact and without obstacles.
		{[][]int{{90}, {91}}, post, 1},
		{[][]int{{90}, {91}, {0}}, post, 1},
		{[][]int{{0}, {91}}, post, 0},
		{[][]int{nil}, post, 0},
		{[][]int{{}, {90}}, post, 0},
		{[][]int{{90}, nil, {90}}, post, 1},
		{[][]int{{90}, {90, 90}}, post, 1},
		{[][]int{{0}, {-91}}, nil, 1},
		{[][]int{{0}, {1}, nil}, nil, 2},
		// Obstacles that are not valid.
		{nil, [][]impl.Point{nil}, -2},
		{[][]int{{90}}, [][]impl.Point{nil}, -2},
		{[][]int{{0}}, [][]impl.Point{post[0], post[0][:2]}, -2},
		{[][]int{nil}, [][]impl.Point{reversedPoints(post[0])}, -2},
		{[][]int{{90}}, sameObstacles(post[0], 6), -1},
		{[][]int{{90}}, sameObstacles(post[0], 7), -2},
		// As many rows as are allowed, and more.
		{craneRows(400), post, -1},
		{withRow(craneRows(400), 399, []int{0}), post, 399},
		{withRow(craneRows(400), 200, nil), post, 200},
		{craneRows(401), post, -2},
		{craneRows(401), nil, -2},
		{withRow(craneRows(401), 0, []int{0}), post, -2},
		{make([][]int, 400), post, 0},
		{make([][]int, 401), post, -2},
		{make([][]int, 401), [][]impl.Point{nil}, -2},
	} {
		if got := impl.FirstContact(crane, c.rows, c.obstacles); got != c.want {
			t.Errorf("FirstContact of the rows %v with the obstacles %v is %d, not %d", c.rows[:min(len(c.rows), 9)], c.obstacles, got, c.want)
		}
	}
}

// Promise 60. A contact at every place, alone and with others behind it.
func TestTheFirstContactIsReported(t *testing.T) {
	for _, n := range []int{1, 2, 3, 5, 17, manyRows} {
		clear := craneRows(n)
		if got := impl.FirstContact(crane, clear, post); got != -1 {
			t.Errorf("the first contact of %d clear rows is %d", n, got)
		}
		for k := range n {
			for _, row := range contactRows {
				rows := withRow(clear, k, row)
				if got := impl.FirstContact(crane, rows, post); got != k {
					t.Errorf("with the row %v at place %d of %d the first contact is %d", row[:min(len(row), 9)], k, n, got)
				}
				for later := k + 1; later < n; later += 1 + n/4 {
					both := withRow(rows, later, contactRows[later%len(contactRows)])
					if got := impl.FirstContact(crane, both, post); got != k {
						t.Errorf("with contacts at the places %d and %d of %d the first one is %d", k, later, n, got)
					}
				}
			}
		}
	}
}

// Promise 60. Without obstacles only a row that is not valid is a contact.
func TestContactsWithoutObstacles(t *testing.T) {
	for _, a := range validArms() {
		rows := someJoints(a)
		for _, none := range [][][]impl.Point{nil, {}} {
			if got := impl.FirstContact(a, rows, none); got != -1 {
				t.Errorf("%v has the contact %d without obstacles", a, got)
			}
			for _, joints := range wrongOrBeyond(a) {
				for k := range rows {
					if got := impl.FirstContact(a, withRow(rows, k, joints), none); got != k {
						t.Errorf("%v with the row %v at place %d has the contact %d", a, joints[:min(len(joints), 9)], k, got)
					}
				}
			}
		}
	}
}

// checkFirst compares with the rows one by one, and reports whether there is a
// contact. It expects a valid arm and a valid scene, and not too many rows.
func checkFirst(t *testing.T, a impl.Arm, rows [][]int, scene [][]impl.Point) bool {
	want := slices.IndexFunc(rows, func(joints []int) bool {
		return !impl.JointsValid(a, joints) || !wantedClear(a, joints, scene)
	})
	got := impl.FirstContact(a, rows, scene)
	if got != want {
		t.Errorf("FirstContact of %v with %d rows and the obstacles %v is %d, not %d", a, len(rows), scene, got, want)
		return want >= 0
	}
	before := rows
	if got >= 0 {
		before = rows[:got]
		if impl.ArmClear(a, rows[got], scene) {
			t.Errorf("%v is clear at row %d, %v, with the obstacles %v", a, got, rows[got], scene)
		}
	}
	for k, joints := range before {
		if !impl.ArmClear(a, joints, scene) {
			t.Errorf("%v is not clear at row %d, %v, before the row %d", a, k, joints, got)
		}
	}
	return got >= 0
}

// Promise 60, for motions and other rows, with and without a contact.
func TestBeforeTheFirstContactTheArmIsClear(t *testing.T) {
	clear, contact := 0, 0
	for _, a := range validArms() {
		motions := [][][]int{someJoints(a), impl.MoveJoints(a, a.Low, a.High, 3, 1), impl.MoveJoints(a, a.High, a.Low, 7, 2)}
		for _, joints := range someJoints(a) {
			motions = append(motions, impl.MoveJoints(a, joints, a.High, 2, 1), impl.MoveJoints(a, a.Low, joints, 20, 5))
		}
		for _, rows := range motions {
			for _, scene := range sampleScenes() {
				if checkFirst(t, a, rows, scene) {
					contact++
				} else {
					clear++
				}
			}
		}
	}
	if clear < 500 || contact < 500 {
		t.Errorf("only %d motions are clear, and %d are not", clear, contact)
	}
}

// Promise 60. Rows behind the end of the list do not count, nor do obstacles.
func TestContactsBehindTheEnd(t *testing.T) {
	rows := append(craneRows(3), []int{0}, nil)
	if got := impl.FirstContact(crane, rows[:3], post); got != -1 {
		t.Errorf("a contact behind the last row is reported as %d", got)
	}
	scene := append(farScene()[:2], post[0], nil)
	if got := impl.FirstContact(crane, [][]int{{90}, {0}}, scene[:2]); got != -1 {
		t.Errorf("a contact with an obstacle behind the last one is reported as %d", got)
	}
	if got := impl.FirstContact(crane, [][]int{{90}, {0}}, scene[:3]); got != 1 {
		t.Errorf("a contact with the last obstacle is reported as %d", got)
	}
}

// Promise 60, for invalid arms, with and without rows and obstacles.
func TestNoContactsOfInvalidArms(t *testing.T) {
	for _, a := range invalidArms() {
		for _, rows := range [][][]int{nil, {}, {nil}, {a.Low}, {a.Low, a.High}, anyJoints(a), craneRows(manyRows), make([][]int, manyRows+1)} {
			for _, scene := range [][][]impl.Point{nil, post, farScene(), {nil}} {
				if got := impl.FirstContact(a, rows, scene); got != -2 {
					t.Errorf("FirstContact of %v with %d rows and the obstacles %v is %d", a, len(rows), scene, got)
				}
			}
		}
	}
}

// Promises 57 and 60, for invalid scenes, with and without rows.
func TestNoContactsWithInvalidScenes(t *testing.T) {
	for _, scene := range invalidScenes() {
		for _, rows := range [][][]int{nil, {}, {{90}}, {{0}}, {nil, {0}}, craneRows(manyRows), craneRows(manyRows + 1)} {
			if got := impl.FirstContact(crane, rows, scene); got != -2 {
				t.Errorf("FirstContact with %d rows and an invalid scene of %d obstacles is %d", len(rows), len(scene), got)
			}
		}
	}
}

// Promise 60, for too many rows, of every kind.
func TestNoContactsOfTooManyRows(t *testing.T) {
	for _, row := range append([][]int{{90}}, contactRows...) {
		for n := manyRows - 1; n <= manyRows+3; n++ {
			for _, scene := range [][][]impl.Point{nil, post, farScene()} {
				got := impl.FirstContact(crane, slices.Repeat([][]int{row}, n), scene)
				want := -2
				if n <= manyRows {
					want = impl.FirstContact(crane, [][]int{row}, scene)
				}
				if got != want {
					t.Errorf("FirstContact with %d times the row %v is %d, not %d", n, row[:min(len(row), 9)], got, want)
				}
			}
		}
	}
}

// roomyRows are copies of lists, with spare capacity. So has their list.
func roomyRows[T any](rows [][]T, behind T) [][]T {
	var full [][]T
	for _, row := range rows {
		full = append(full, append(slices.Clone(row), behind, behind)[:len(row)])
	}
	return append(full, []T{behind}, nil)[:len(rows)]
}

// wholeRows are copies of lists, together with all spare capacity.
func wholeRows[T any](rows [][]T) [][]T {
	var list [][]T
	for _, row := range whole(rows) {
		list = append(list, slices.Clone(whole(row)))
	}
	return list
}

// checkCollisionMemory calls all functions with lists that have spare capacity.
func checkCollisionMemory(t *testing.T, a impl.Arm, rows [][]int, scene [][]impl.Point) {
	b, angles, obstacles := arm(roomy(a.Links), roomy(a.Low), roomy(a.High)), roomyRows(rows, 77), roomyRows(scene, point(7, 7))
	armBefore, anglesBefore, obstaclesBefore := copyArm(wholeArm(b)), wholeRows(angles), wholeRows(obstacles)
	for range 2 {
		impl.SceneValid(obstacles)
		impl.FirstContact(b, angles, obstacles)
		for _, joints := range angles {
			impl.ArmClear(b, joints, obstacles)
			impl.SelfClear(b, joints)
		}
	}
	if !equalArms(wholeArm(b), armBefore) || !equalRows(wholeRows(angles), anglesBefore) || !equalRows(wholeRows(obstacles), obstaclesBefore) {
		t.Errorf("the arm %v, the rows or the obstacles %v are changed", a, scene)
	}
}

// Promises 57 to 60. No argument is changed, nor what lies behind its end.
func TestCollisionsChangeNothing(t *testing.T) {
	for _, a := range append(validArms(), unevenArms()...) {
		rows := append(anyJoints(a), a.High, a.Low)
		if impl.ArmValid(a) {
			rows = slices.Concat(someJoints(a), rows, someJoints(a))
		}
		for _, scene := range append(sampleScenes(), invalidScenes()[:20]...) {
			checkCollisionMemory(t, a, rows, scene)
		}
	}
}
