package tests

import (
	"math"
	"slices"
	"testing"

	"loop.example/robotcell/impl"
)

// extremes are numbers that overflow when they are negated, added or doubled.
var extremes = []int{math.MinInt, math.MinInt + 1, -1 << 32, 1 << 32, math.MaxInt - 1, math.MaxInt}

func arm(links []int, low []int, high []int) impl.Arm {
	return impl.Arm{Links: links, Low: low, High: high}
}

// evenArm has the same range for all joints.
func evenArm(low int, high int, links ...int) impl.Arm {
	return arm(links, slices.Repeat([]int{low}, len(links)), slices.Repeat([]int{high}, len(links)))
}

func copyArm(a impl.Arm) impl.Arm {
	return arm(slices.Clone(a.Links), slices.Clone(a.Low), slices.Clone(a.High))
}

func equalArms(a impl.Arm, b impl.Arm) bool {
	return slices.Equal(a.Links, b.Links) && slices.Equal(a.Low, b.Low) && slices.Equal(a.High, b.High)
}

func validArms() []impl.Arm {
	return []impl.Arm{
		evenArm(-180, 180, 1),
		evenArm(-180, 180, 500),
		evenArm(0, 0, 500),
		evenArm(-180, -180, 7),
		evenArm(180, 180, 7),
		evenArm(33, 33, 250),
		evenArm(-90, 90, 100, 50),
		evenArm(-180, 180, 80, 80),
		evenArm(-180, 180, 1, 500),
		evenArm(-180, 180, 300, 100, 50),
		evenArm(-150, 120, 50, 300, 100),
		evenArm(-45, 60, 50, 100, 300),
		evenArm(-180, 180, 500, 500, 500, 500),
		evenArm(-180, 180, 1, 1, 1, 1),
		evenArm(170, 180, 101, 102, 103, 104),
		evenArm(-180, -170, 104, 103, 102, 101),
		arm([]int{9, 99, 499}, []int{-180, 5, -1}, []int{-170, 90, 1}),
		arm([]int{1, 2, 3, 500}, []int{-180, 180, 0, 37}, []int{-180, 180, 0, 37}),
		arm([]int{400, 20, 300, 1}, []int{-180, -10, 0, 179}, []int{180, 10, 0, 180}),
	}
}

// spoiledArms are valid arms with one number that is out of range.
func spoiledArms() []impl.Arm {
	var list []impl.Arm
	for _, a := range validArms() {
		for k := range a.Links {
			spoil := func(change func(b impl.Arm)) {
				b := copyArm(a)
				change(b)
				list = append(list, b)
			}
			for _, length := range append([]int{-500, -1, 0, 501, 1000}, extremes...) {
				spoil(func(b impl.Arm) { b.Links[k] = length })
			}
			for _, angle := range append([]int{-360, -181, a.High[k] + 1, 181, 360}, extremes...) {
				spoil(func(b impl.Arm) { b.Low[k] = angle })
			}
			for _, angle := range append([]int{-360, -181, a.Low[k] - 1, 181, 360}, extremes...) {
				spoil(func(b impl.Arm) { b.High[k] = angle })
			}
			spoil(func(b impl.Arm) { b.Low[k], b.High[k] = 1, 0 })
			spoil(func(b impl.Arm) { b.Low[k], b.High[k] = 180, -180 })
			spoil(func(b impl.Arm) { b.Low[k], b.High[k] = math.MaxInt, math.MinInt })
			spoil(func(b impl.Arm) { b.Low[k], b.High[k] = math.MinInt, math.MaxInt })
		}
	}
	return list
}

// unevenArms have lists with wrong numbers of elements.
func unevenArms() []impl.Arm {
	list := []impl.Arm{
		{},
		arm([]int{}, []int{}, []int{}),
		arm(nil, []int{0}, []int{0}),
		evenArm(0, 0, 1, 2, 3, 4, 5),
		evenArm(-180, 180, slices.Repeat([]int{10}, 1000)...),
	}
	for _, a := range validArms() {
		last := len(a.Links) - 1
		list = append(list,
			arm(nil, a.Low, a.High), arm(a.Links, nil, a.High), arm(a.Links, a.Low, nil),
			arm(a.Links, nil, nil), arm(nil, a.Low, nil), arm(nil, nil, a.High),
			arm(a.Links, []int{}, a.High), arm(a.Links, a.Low, []int{}),
			arm(a.Links[:last], a.Low, a.High),
			arm(a.Links, a.Low[:last], a.High),
			arm(a.Links, a.Low, a.High[:last]),
			arm(a.Links, a.Low[:last], a.High[:last]),
			arm(longer(a.Links, 1), a.Low, a.High),
			arm(a.Links, longer(a.Low, 0), a.High),
			arm(a.Links, a.Low, longer(a.High, 0)),
			arm(a.Links, longer(a.Low, 0), longer(a.High, 0)),
		)
	}
	return list
}

func invalidArms() []impl.Arm {
	return append(spoiledArms(), unevenArms()...)
}

// longer does not write into the spare capacity of the list.
func longer(list []int, value int) []int {
	return append(slices.Clone(list), value)
}

// sampleAngles are the angles at and next to both limits, the one between them,
// and 0 if it is allowed.
func sampleAngles(low int, high int) []int {
	var list []int
	for _, angle := range []int{low, low + 1, (low + high) / 2, 0, high - 1, high} {
		if low <= angle && angle <= high && !slices.Contains(list, angle) {
			list = append(list, angle)
		}
	}
	return list
}

// sampleJoints combines the sample angles of all joints.
func sampleJoints(a impl.Arm) [][]int {
	rows := [][]int{nil}
	for k := range a.Links {
		var next [][]int
		for _, row := range rows {
			for _, angle := range sampleAngles(a.Low[k], a.High[k]) {
				next = append(next, longer(row, angle))
			}
		}
		rows = next
	}
	return rows
}

// wrongJoints are fewer or more angles than the valid arm has joints.
func wrongJoints(a impl.Arm) [][]int {
	list := [][]int{nil, {}, longer(a.Low, 0), longer(a.High, a.High[0]), append(slices.Clone(a.Low), a.High...)}
	for n := 1; n < len(a.Low); n++ {
		list = append(list, a.Low[:n], a.High[n:])
	}
	return append(list, slices.Repeat([]int{a.Low[0]}, 1000))
}

// beyondJoints are valid angles except for one that is beyond its range.
func beyondJoints(a impl.Arm) [][]int {
	var list [][]int
	for k := range a.Links {
		for _, rest := range [][]int{a.Low, a.High} {
			for _, angle := range append([]int{a.Low[k] - 1, a.High[k] + 1, a.Low[k] - 360, a.High[k] + 360}, extremes...) {
				row := slices.Clone(rest)
				row[k] = angle
				list = append(list, row)
			}
		}
	}
	return list
}

// anyJoints are angles for an invalid arm: as many as it has links or numbers
// in a range, none, and other numbers of them.
func anyJoints(a impl.Arm) [][]int {
	return [][]int{nil, {}, a.Links, a.Low, a.High, make([]int, len(a.Links)), {0}, {0, 0}, {0, 0, 0}, {0, 0, 0, 0}, {0, 0, 0, 0, 0}}
}

// pointsByRotation is the expected result of ArmPoints for valid arguments.
// Every link is rounded on its own.
func pointsByRotation(links []int, joints []int) []impl.Point {
	list := []impl.Point{{}}
	for k, length := range links {
		direction := 0
		for _, angle := range joints[:k+1] {
			direction += angle
		}
		vector := nearestRotation(point(length, 0), direction)
		list = append(list, point(list[k].X+vector.X, list[k].Y+vector.Y))
	}
	return list
}

func TestArmConstants(t *testing.T) {
	if impl.MaxLinks != 4 || impl.MaxLength != 500 {
		t.Fatalf("MaxLinks is %d, MaxLength is %d", impl.MaxLinks, impl.MaxLength)
	}
}

func TestArmValidExamples(t *testing.T) {
	for _, c := range []struct {
		arm  impl.Arm
		want bool
	}{
		{evenArm(-90, 90, 100, 50), true},
		{evenArm(-180, 180, 1), true},
		{evenArm(-180, 180, 500), true},
		{evenArm(-180, 180, 500, 500, 500, 500), true},
		{evenArm(-180, 180, 1, 1, 1, 1), true},
		{evenArm(-180, 180, 1, 1, 1, 1, 1), false},
		{impl.Arm{}, false},
		{arm([]int{}, []int{}, []int{}), false},
		{impl.Arm{Links: []int{1}}, false},
		{evenArm(-180, 180, 0), false},
		{evenArm(-180, 180, 501), false},
		{evenArm(-180, 180, -1), false},
		{evenArm(-180, 180, 100, 0), false},
		{evenArm(-180, 180, 100, 501), false},
		{evenArm(-180, 180, 100, 100, 100, -500), false},
		{evenArm(0, 0, 1), true},
		{evenArm(-180, -180, 1), true},
		{evenArm(180, 180, 1), true},
		{evenArm(-181, 0, 1), false},
		{evenArm(0, 181, 1), false},
		{evenArm(-181, -181, 1), false},
		{evenArm(181, 181, 1), false},
		{evenArm(1, 0, 1), false},
		{evenArm(0, -1, 1), false},
		{evenArm(180, -180, 1), false},
		{arm([]int{10, 10}, []int{0, 0}, []int{0, -1}), false},
		{arm([]int{10, 10}, []int{0}, []int{0, 0}), false},
		{arm([]int{10, 10}, []int{0, 0}, []int{0}), false},
		{arm([]int{10, 10}, []int{0, 0, 0}, []int{0, 0}), false},
		{arm([]int{10, 10}, []int{0, 0}, []int{0, 0, 0}), false},
		{arm([]int{10, 10}, []int{0, 0, 0}, []int{0, 0, 0}), false},
		{arm([]int{10, 10}, nil, []int{0, 0}), false},
		{arm([]int{10, 10}, []int{0, 0}, nil), false},
		{arm(nil, []int{0, 0}, []int{0, 0}), false},
	} {
		if got := impl.ArmValid(c.arm); got != c.want {
			t.Errorf("ArmValid(%v) is %v", c.arm, got)
		}
	}
}

// Promise 29.
func TestArmsHaveRangesForAllJoints(t *testing.T) {
	for _, a := range validArms() {
		if !impl.ArmValid(a) {
			t.Errorf("%v is not valid", a)
		}
		for k := range a.Links {
			b := copyArm(a)
			b.Links[k] = 0
			if impl.ArmValid(b) {
				t.Errorf("%v is valid", b)
			}
			for _, b := range []impl.Arm{
				arm(a.Links, slices.Delete(slices.Clone(a.Low), k, k+1), a.High),
				arm(a.Links, a.Low, slices.Delete(slices.Clone(a.High), k, k+1)),
			} {
				if impl.ArmValid(b) {
					t.Errorf("%v is valid", b)
				}
			}
		}
	}
	for _, a := range invalidArms() {
		if impl.ArmValid(a) {
			t.Errorf("%v is valid", a)
		}
	}
}

// Promise 29, for every length and every limit near its bounds.
func TestLengthsAndLimitsAreBounded(t *testing.T) {
	for length := -10; length <= 510; length++ {
		want := 1 <= length && length <= 500
		if got := impl.ArmValid(evenArm(-1, 1, length)); got != want {
			t.Errorf("an arm with the length %d is valid: %v", length, got)
		}
		if got := impl.ArmValid(evenArm(-1, 1, 10, 20, 30, length)); got != want {
			t.Errorf("an arm with the last length %d is valid: %v", length, got)
		}
	}
	for low := -190; low <= 190; low++ {
		for high := -190; high <= 190; high++ {
			want := -180 <= low && low <= high && high <= 180
			if got := impl.ArmValid(evenArm(low, high, 10)); got != want {
				t.Errorf("an arm with the range %d..%d is valid: %v", low, high, got)
			}
			if got := impl.ArmValid(arm([]int{10, 20}, []int{0, low}, []int{0, high})); got != want {
				t.Errorf("an arm with the second range %d..%d is valid: %v", low, high, got)
			}
		}
	}
}

func TestJointsValidExamples(t *testing.T) {
	a := arm([]int{100, 50}, []int{-90, 10}, []int{45, 10})
	for _, c := range []struct {
		joints []int
		want   bool
	}{
		{[]int{-90, 10}, true}, {[]int{45, 10}, true}, {[]int{0, 10}, true},
		{[]int{-91, 10}, false}, {[]int{46, 10}, false}, {[]int{0, 9}, false}, {[]int{0, 11}, false},
		{[]int{270, 10}, false}, {[]int{0, 370}, false}, {[]int{0, -350}, false},
		{[]int{math.MinInt, 10}, false}, {[]int{math.MaxInt, 10}, false},
		{[]int{0, math.MinInt}, false}, {[]int{0, math.MaxInt}, false},
		{nil, false}, {[]int{}, false}, {[]int{0}, false}, {[]int{10}, false},
		{[]int{0, 10, 0}, false}, {[]int{0, 10, 10}, false},
	} {
		if got := impl.JointsValid(a, c.joints); got != c.want {
			t.Errorf("JointsValid(%v, %v) is %v", a, c.joints, got)
		}
	}
}

// Promise 30.
func TestLimitsAreValidAngles(t *testing.T) {
	for _, a := range validArms() {
		if !impl.JointsValid(a, a.Low) || !impl.JointsValid(a, a.High) {
			t.Errorf("the limits of %v are not valid", a)
		}
		for _, joints := range sampleJoints(a) {
			if !impl.JointsValid(a, joints) {
				t.Errorf("JointsValid(%v, %v) is false", a, joints)
			}
		}
		for _, joints := range append(beyondJoints(a), wrongJoints(a)...) {
			if impl.JointsValid(a, joints) {
				t.Errorf("JointsValid(%v, %v) is true", a, joints)
			}
		}
	}
	for _, a := range invalidArms() {
		for _, joints := range anyJoints(a) {
			if impl.JointsValid(a, joints) {
				t.Errorf("JointsValid(%v, %v) is true", a, joints)
			}
		}
	}
}

// Promise 30, for every angle.
func TestAnglesAreInTheirRanges(t *testing.T) {
	for _, bounds := range [][2]int{{-180, 180}, {-180, -180}, {180, 180}, {0, 0}, {-90, 45}, {-7, -5}, {5, 7}, {179, 180}} {
		for angle := -400; angle <= 400; angle++ {
			want := bounds[0] <= angle && angle <= bounds[1]
			if got := impl.JointsValid(evenArm(bounds[0], bounds[1], 10), []int{angle}); got != want {
				t.Errorf("the angle %d in the range %v is valid: %v", angle, bounds, got)
			}
			a := arm([]int{10, 20, 30}, []int{-1, 3, bounds[0]}, []int{1, 3, bounds[1]})
			if got := impl.JointsValid(a, []int{0, 3, angle}); got != want {
				t.Errorf("the last angle %d in the range %v is valid: %v", angle, bounds, got)
			}
		}
	}
}

func TestArmPointsExamples(t *testing.T) {
	for _, c := range []struct {
		links, joints []int
		want          []impl.Point
	}{
		{[]int{100, 50}, []int{0, 90}, []impl.Point{{}, {X: 100}, {X: 100, Y: 50}}},
		{[]int{100, 50}, []int{90, 0}, []impl.Point{{}, {Y: 100}, {Y: 150}}},
		{[]int{100, 50}, []int{90, 90}, []impl.Point{{}, {Y: 100}, {X: -50, Y: 100}}},
		{[]int{100, 50}, []int{90, -90}, []impl.Point{{}, {Y: 100}, {X: 50, Y: 100}}},
		{[]int{100, 50}, []int{30, 60}, []impl.Point{{}, {X: 87, Y: 50}, {X: 87, Y: 100}}},
		{[]int{500}, []int{0}, []impl.Point{{}, {X: 500}}},
		{[]int{500}, []int{180}, []impl.Point{{}, {X: -500}}},
		{[]int{500}, []int{-180}, []impl.Point{{}, {X: -500}}},
		{[]int{1, 2, 3, 4}, []int{0, 0, 0, 0}, []impl.Point{{}, {X: 1}, {X: 3}, {X: 6}, {X: 10}}},
		{[]int{500, 500, 500, 500}, []int{0, 0, 0, 0}, []impl.Point{{}, {X: 500}, {X: 1000}, {X: 1500}, {X: 2000}}},
		// Sums of angles beyond a full turn, and below 0.
		{[]int{100, 100, 100}, []int{180, 180, 90}, []impl.Point{{}, {X: -100}, {}, {Y: 100}}},
		{[]int{100, 100, 100}, []int{-180, -180, -90}, []impl.Point{{}, {X: -100}, {}, {Y: -100}}},
		{[]int{10, 20, 30, 40}, []int{180, 180, 180, 180}, []impl.Point{{}, {X: -10}, {X: 10}, {X: -20}, {X: 20}}},
		{[]int{10, 20, 30, 40}, []int{-180, -180, -180, -180}, []impl.Point{{}, {X: -10}, {X: 10}, {X: -20}, {X: 20}}},
		{
			[]int{100, 100, 100, 100}, []int{170, 170, 170, 170},
			[]impl.Point{{}, {X: -98, Y: 17}, {X: -4, Y: -17}, {X: -91, Y: 33}, {X: -14, Y: -31}},
		},
		// Halves go upwards, and every link is rounded on its own.
		{[]int{1, 1}, []int{60, 0}, []impl.Point{{}, {X: 1, Y: 1}, {X: 2, Y: 2}}},
		{[]int{1, 1}, []int{120, 0}, []impl.Point{{}, {Y: 1}, {Y: 2}}},
		{[]int{1, 1}, []int{-30, 0}, []impl.Point{{}, {X: 1}, {X: 2}}},
		{[]int{1, 1}, []int{-120, 0}, []impl.Point{{}, {Y: -1}, {Y: -2}}},
	} {
		a := evenArm(-180, 180, c.links...)
		if got := impl.ArmPoints(a, c.joints); !slices.Equal(got, c.want) {
			t.Errorf("ArmPoints(%v, %v) is %v, not %v", a, c.joints, got, c.want)
		}
		if got, want := impl.TipOf(a, c.joints), c.want[len(c.want)-1]; got != want {
			t.Errorf("TipOf(%v, %v) is %v, not %v", a, c.joints, got, want)
		}
	}
}

func checkLinks(t *testing.T, a impl.Arm, joints []int) {
	got := impl.ArmPoints(a, joints)
	if want := pointsByRotation(a.Links, joints); !slices.Equal(got, want) {
		t.Errorf("ArmPoints(%v, %v) is %v, not %v", a, joints, got, want)
		return
	}
	if len(got) != len(a.Links)+1 || got[0] != (impl.Point{}) {
		t.Errorf("ArmPoints(%v, %v) is %v", a, joints, got)
		return
	}
	for k, length := range a.Links {
		distance := distanceFromOrigin(point(got[k+1].X-got[k].X, got[k+1].Y-got[k].Y))
		if math.Abs(distance-float64(length)) > 1 {
			t.Errorf("link %d of ArmPoints(%v, %v) has the length %f", k, a, joints, distance)
		}
	}
}

// Promise 31.
func TestLinksKeepTheirLengths(t *testing.T) {
	for _, a := range validArms() {
		for _, joints := range sampleJoints(a) {
			checkLinks(t, a, joints)
		}
	}
	for _, length := range []int{1, 2, 3, 71, 250, 499, 500} {
		for angle := -180; angle <= 180; angle++ {
			checkLinks(t, evenArm(-180, 180, length), []int{angle})
			checkLinks(t, evenArm(-180, 180, 17, length), []int{angle, angle})
			checkLinks(t, evenArm(-180, 180, length, 1, 500, length), []int{angle, -angle / 3, angle / 2, angle})
		}
	}
}

func checkTip(t *testing.T, a impl.Arm, joints []int) {
	points := impl.ArmPoints(a, joints)
	tip := impl.TipOf(a, joints)
	if len(points) == 0 || tip != points[len(points)-1] {
		t.Errorf("TipOf(%v, %v) is %v, not the last of %v", a, joints, tip, points)
	}
	sum, least := impl.ReachOf(a)
	distance, slack := distanceFromOrigin(tip), float64(len(a.Links))
	if distance > float64(sum)+slack || distance < float64(least)-slack {
		t.Errorf("TipOf(%v, %v) is %v, out of the reach %d..%d", a, joints, tip, least, sum)
	}
}

// Promise 32.
func TestTheTipIsTheLastPoint(t *testing.T) {
	for _, a := range validArms() {
		for _, joints := range sampleJoints(a) {
			checkTip(t, a, joints)
		}
		straight := make([]int, len(a.Links))
		sum, _ := impl.ReachOf(a)
		if impl.JointsValid(a, straight) && impl.TipOf(a, straight) != point(sum, 0) {
			t.Errorf("the tip of %v, stretched, is %v, not at %d", a, impl.TipOf(a, straight), sum)
		}
	}
	for angle := -180; angle <= 180; angle++ {
		for _, links := range [][]int{{500, 1}, {100, 100}, {3, 4, 5}, {500, 100, 200, 199}, {1, 1, 1, 1}} {
			a := evenArm(-180, 180, links...)
			checkTip(t, a, slices.Repeat([]int{angle}, len(links)))
			folded := slices.Repeat([]int{180}, len(links))
			folded[0] = angle
			checkTip(t, a, folded)
		}
	}
}

// Promises 31 and 32, for invalid arguments.
func TestPointsOfInvalidArguments(t *testing.T) {
	check := func(a impl.Arm, joints []int) {
		if got := impl.ArmPoints(a, joints); len(got) != 0 {
			t.Errorf("ArmPoints(%v, %v) is %v", a, joints, got)
		}
		if got := impl.TipOf(a, joints); got != (impl.Point{}) {
			t.Errorf("TipOf(%v, %v) is %v", a, joints, got)
		}
	}
	for _, a := range validArms() {
		for _, joints := range append(beyondJoints(a), wrongJoints(a)...) {
			check(a, joints)
		}
	}
	for _, a := range invalidArms() {
		for _, joints := range anyJoints(a) {
			check(a, joints)
		}
	}
}

func TestReachOfExamples(t *testing.T) {
	for _, c := range []struct {
		links      []int
		sum, least int
	}{
		{[]int{1}, 1, 1}, {[]int{500}, 500, 500}, {[]int{7}, 7, 7},
		{[]int{100, 50}, 150, 50}, {[]int{50, 100}, 150, 50}, {[]int{80, 80}, 160, 0}, {[]int{1, 500}, 501, 499},
		{[]int{300, 100, 50}, 450, 150}, {[]int{100, 300, 50}, 450, 150}, {[]int{50, 100, 300}, 450, 150},
		{[]int{150, 100, 50}, 300, 0}, {[]int{151, 100, 50}, 301, 1}, {[]int{149, 100, 50}, 299, 0},
		{[]int{3, 4, 5}, 12, 0},
		{[]int{1, 2, 3, 500}, 506, 494}, {[]int{500, 500, 500, 500}, 2000, 0}, {[]int{1, 1, 1, 1}, 4, 0},
		{[]int{1, 1, 4, 1}, 7, 1}, {[]int{1, 1, 3, 1}, 6, 0},
	} {
		a := evenArm(-10, 20, c.links...)
		if sum, least := impl.ReachOf(a); sum != c.sum || least != c.least {
			t.Errorf("ReachOf(%v) is %d, %d, not %d, %d", a, sum, least, c.sum, c.least)
		}
	}
}

// Promise 33.
func TestTheReachHasAnInnerAndAnOuterBound(t *testing.T) {
	lengths := []int{1, 2, 3, 50, 100, 249, 250, 251, 499, 500}
	for _, first := range lengths {
		if sum, least := impl.ReachOf(evenArm(0, 0, first)); sum != first || least != first {
			t.Errorf("one link of the length %d reaches %d, %d", first, sum, least)
		}
		for _, second := range lengths {
			sum, least := impl.ReachOf(evenArm(-180, 180, first, second))
			if sum != first+second || least != max(first-second, second-first) {
				t.Errorf("links of the lengths %d and %d reach %d, %d", first, second, sum, least)
			}
			for _, third := range lengths {
				sum, least := impl.ReachOf(evenArm(5, 6, first, second, third))
				want := max(0, first-second-third, second-first-third, third-first-second)
				if sum != first+second+third || least != want || least > sum {
					t.Errorf("links of the lengths %d, %d and %d reach %d, %d", first, second, third, sum, least)
				}
			}
		}
	}
	for _, a := range validArms() {
		if sum, least := impl.ReachOf(a); least < 0 || least > sum {
			t.Errorf("ReachOf(%v) is %d, %d", a, sum, least)
		}
	}
	for _, a := range invalidArms() {
		if sum, least := impl.ReachOf(a); sum != 0 || least != 0 {
			t.Errorf("ReachOf(%v) is %d, %d", a, sum, least)
		}
	}
}

func TestClampJointsExamples(t *testing.T) {
	a := arm([]int{100, 50, 25}, []int{-90, 10, -180}, []int{45, 10, 180})
	for _, c := range []struct{ joints, want []int }{
		{[]int{0, 10, 0}, []int{0, 10, 0}},
		{[]int{-90, 10, -180}, []int{-90, 10, -180}},
		{[]int{45, 10, 180}, []int{45, 10, 180}},
		{[]int{-91, 9, -181}, []int{-90, 10, -180}},
		{[]int{46, 11, 181}, []int{45, 10, 180}},
		{[]int{-89, 0, -179}, []int{-89, 10, -179}},
		{[]int{44, 20, 179}, []int{44, 10, 179}},
		// An angle is moved, not turned: 300 is beyond 45, although it is -60 too.
		{[]int{300, 370, 360}, []int{45, 10, 180}},
		{[]int{-300, -350, -360}, []int{-90, 10, -180}},
		{[]int{math.MinInt, math.MaxInt, math.MinInt}, []int{-90, 10, -180}},
		{[]int{math.MaxInt, math.MinInt, math.MaxInt}, []int{45, 10, 180}},
		{nil, nil}, {[]int{}, nil}, {[]int{0}, nil}, {[]int{0, 10}, nil}, {[]int{0, 10, 0, 0}, nil},
	} {
		if got := impl.ClampJoints(a, c.joints); !slices.Equal(got, c.want) {
			t.Errorf("ClampJoints(%v, %v) is %v, not %v", a, c.joints, got, c.want)
		}
	}
}

// checkClamp expects one angle for every joint of a valid arm.
func checkClamp(t *testing.T, a impl.Arm, joints []int) {
	got := impl.ClampJoints(a, joints)
	if !impl.JointsValid(a, got) {
		t.Errorf("ClampJoints(%v, %v) is %v, not valid", a, joints, got)
		return
	}
	if again := impl.ClampJoints(a, got); !slices.Equal(again, got) {
		t.Errorf("ClampJoints(%v, %v) is %v, and then %v", a, joints, got, again)
	}
	for k, angle := range joints {
		want := angle
		if angle < a.Low[k] {
			want = a.Low[k]
		}
		if angle > a.High[k] {
			want = a.High[k]
		}
		if got[k] != want {
			t.Errorf("angle %d of ClampJoints(%v, %v) is %d, not %d", k, a, joints, got[k], want)
		}
	}
}

// Promise 34.
func TestClampedAnglesAreValid(t *testing.T) {
	for _, a := range validArms() {
		for _, joints := range sampleJoints(a) {
			if got := impl.ClampJoints(a, joints); !slices.Equal(got, joints) {
				t.Errorf("ClampJoints(%v, %v) is %v", a, joints, got)
			}
		}
		for _, joints := range beyondJoints(a) {
			checkClamp(t, a, joints)
		}
		for angle := -400; angle <= 400; angle++ {
			checkClamp(t, a, slices.Repeat([]int{angle}, len(a.Links)))
		}
		for _, angle := range extremes {
			checkClamp(t, a, slices.Repeat([]int{angle}, len(a.Links)))
		}
		for _, joints := range wrongJoints(a) {
			if got := impl.ClampJoints(a, joints); len(got) != 0 {
				t.Errorf("ClampJoints(%v, %v) is %v", a, joints, got)
			}
		}
	}
	for _, a := range invalidArms() {
		for _, joints := range anyJoints(a) {
			if got := impl.ClampJoints(a, joints); len(got) != 0 {
				t.Errorf("ClampJoints(%v, %v) is %v", a, joints, got)
			}
		}
	}
}

// roomy is a copy of a list with spare capacity, in which writing can be seen.
func roomy(list []int) []int {
	full := append(slices.Clone(list), 11, 22, 33, 44)
	return full[:len(list)]
}

// whole is a list together with its spare capacity.
func whole[T any](list []T) []T {
	return list[:cap(list)]
}

func wholeArm(a impl.Arm) impl.Arm {
	return arm(whole(a.Links), whole(a.Low), whole(a.High))
}

func callAll(a impl.Arm, joints []int) {
	impl.ArmValid(a)
	impl.JointsValid(a, joints)
	impl.ArmPoints(a, joints)
	impl.TipOf(a, joints)
	impl.ReachOf(a)
	impl.ClampJoints(a, joints)
}

// checkUnchanged calls all functions with lists that have spare capacity.
func checkUnchanged(t *testing.T, a impl.Arm, joints []int) {
	b := arm(roomy(a.Links), roomy(a.Low), roomy(a.High))
	angles := roomy(joints)
	armBefore, anglesBefore := copyArm(wholeArm(b)), slices.Clone(whole(angles))
	callAll(b, angles)
	if !equalArms(wholeArm(b), armBefore) || !slices.Equal(whole(angles), anglesBefore) {
		t.Errorf("the arm %v or the angles %v are changed", a, joints)
	}
}

func TestArmFunctionsChangeNothing(t *testing.T) {
	for _, a := range validArms() {
		for _, joints := range slices.Concat(sampleJoints(a), beyondJoints(a), wrongJoints(a)) {
			checkUnchanged(t, a, joints)
		}
	}
	for _, a := range invalidArms() {
		for _, joints := range anyJoints(a) {
			checkUnchanged(t, a, joints)
		}
	}
}

// checkUnshared overwrites a result, and then the arguments. The second result
// must be affected by neither.
func checkUnshared(t *testing.T, a impl.Arm, joints []int) {
	b := arm(roomy(a.Links), roomy(a.Low), roomy(a.High))
	angles := roomy(joints)
	armBefore, anglesBefore := copyArm(wholeArm(b)), slices.Clone(whole(angles))
	clamped, points := impl.ClampJoints(b, angles), impl.ArmPoints(b, angles)
	keptClamped, keptPoints := impl.ClampJoints(b, angles), impl.ArmPoints(b, angles)
	wantClamped, wantPoints := slices.Clone(keptClamped), slices.Clone(keptPoints)
	for k := range whole(clamped) {
		whole(clamped)[k] = 777
	}
	for k := range whole(points) {
		whole(points)[k] = point(777, 777)
	}
	if !equalArms(wholeArm(b), armBefore) || !slices.Equal(whole(angles), anglesBefore) {
		t.Errorf("a result for %v and %v shares memory with an argument", a, joints)
	}
	for _, list := range [][]int{whole(b.Links), whole(b.Low), whole(b.High), whole(angles)} {
		for k := range list {
			list[k] = 888
		}
	}
	if !slices.Equal(keptClamped, wantClamped) || !slices.Equal(keptPoints, wantPoints) {
		t.Errorf("a result for %v and %v shares memory with an argument or with another result", a, joints)
	}
}

func TestArmResultsShareNoMemory(t *testing.T) {
	for _, a := range validArms() {
		for _, joints := range slices.Concat(sampleJoints(a), beyondJoints(a)) {
			checkUnshared(t, a, joints)
		}
	}
}
