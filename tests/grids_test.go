package tests

import (
	"math"
	"slices"
	"testing"

	"loop.example/robotcell/impl"
)

const mostCells = impl.MaxCells

// wrongSteps are not in 1..360.
var wrongSteps = append([]int{0, -1, -2, -19, -90, -360, -361, 361, 362, 720, 1000}, extremes...)

func cell(a int, b int) impl.Cell {
	return impl.Cell{A: a, B: b}
}

// angleArm has two links with the given ranges.
func angleArm(lowA int, highA int, lowB int, highB int) impl.Arm {
	return arm([]int{100, 50}, []int{lowA, lowB}, []int{highA, highB})
}

// anglesFrom are the angles from low to high, step by step.
func anglesFrom(low int, high int, step int) []int {
	var list []int
	for angle := low; angle <= high; angle += step {
		list = append(list, angle)
	}
	return list
}

// wantedSize expects a valid arm with two links and a step in 1..360.
func wantedSize(a impl.Arm, step int) (int, int) {
	rows := len(anglesFrom(a.Low[0], a.High[0], step))
	columns := len(anglesFrom(a.Low[1], a.High[1], step))
	if rows > mostCells || columns > mostCells {
		return 0, 0
	}
	return rows, columns
}

// gridArm is an arm with two links, and a step with which it has a grid.
type gridArm struct {
	arm  impl.Arm
	step int
}

// gridArms have grids of all kinds: of one cell, of one row, of one column, and
// of as many cells as are allowed.
func gridArms() []gridArm {
	list := []gridArm{
		{angleArm(33, 33, -20, -20), 1},
		{angleArm(33, 33, -20, -20), 360},
		{angleArm(0, 0, -90, 90), 10},
		{angleArm(-90, 90, 180, 180), 10},
		{angleArm(0, 90, 0, 40), 10},
		{angleArm(-9, 10, -180, -161), 1},
		{angleArm(161, 180, 0, 0), 1},
		{angleArm(-180, 180, -180, 180), 19},
		{angleArm(-180, 162, 0, 180), 18},
		{angleArm(-180, 180, -180, 180), 359},
		{angleArm(-180, 180, -180, 180), 360},
		{angleArm(-180, 179, -180, 179), 360},
		{angleArm(-17, 23, 5, 100), 7},
	}
	for _, a := range validArms() {
		for _, step := range []int{1, 19, 37, 90, 360} {
			if len(a.Links) == 2 && a.High[0]-a.Low[0] < mostCells*step {
				list = append(list, gridArm{a, step})
			}
		}
	}
	return list
}

// eachCell calls a function with every cell of a grid, in order.
func (g gridArm) eachCell(call func(c impl.Cell, joints []int)) {
	for x, a := range anglesFrom(g.arm.Low[0], g.arm.High[0], g.step) {
		for y, b := range anglesFrom(g.arm.Low[1], g.arm.High[1], g.step) {
			call(cell(x, y), []int{a, b})
		}
	}
}

// eachWithoutGrid calls a function with arms and steps for which there is no
// grid.
func eachWithoutGrid(call func(a impl.Arm, step int)) {
	for _, g := range gridArms() {
		for _, step := range wrongSteps {
			call(g.arm, step)
		}
	}
	for _, a := range append(validArms(), evenArm(0, 0, 1), evenArm(0, 0, 1, 2, 3), evenArm(0, 0, 1, 2, 3, 4)) {
		for _, step := range []int{1, 18, 19, 360, 0, 361} {
			if len(a.Links) != 2 {
				call(a, step)
			}
		}
	}
	for _, a := range invalidArms() {
		for _, step := range []int{1, 19, 360, 0, -1, math.MinInt} {
			call(a, step)
		}
	}
	for _, g := range []gridArm{
		{angleArm(0, 20, 0, 19), 1}, {angleArm(0, 19, 0, 20), 1}, {angleArm(0, 20, 0, 20), 1}, {angleArm(0, 0, 0, 20), 1},
		{angleArm(0, 20, 0, 0), 1}, {angleArm(-180, 180, 0, 0), 18}, {angleArm(0, 0, -180, 180), 18}, {angleArm(-180, 180, -180, 180), 1},
		{angleArm(-20, 20, 0, 39), 2}, {angleArm(0, 39, -20, 20), 2}, {angleArm(-180, 180, -180, 180), 17},
	} {
		call(g.arm, g.step)
	}
}

func TestMaxCells(t *testing.T) {
	if impl.MaxCells != 20 {
		t.Fatalf("MaxCells is %d", impl.MaxCells)
	}
}

func TestGridSizeExamples(t *testing.T) {
	a := angleArm(0, 90, 0, 40)
	for _, c := range []struct {
		arm     impl.Arm
		step    int
		rows    int
		columns int
	}{
		// A step that divides the ranges, and steps that do not.
		{a, 10, 10, 5},
		{a, 5, 19, 9},
		{a, 9, 11, 5},
		{a, 11, 9, 4},
		{a, 40, 3, 2},
		{a, 41, 3, 1},
		{a, 90, 2, 1},
		{a, 91, 1, 1},
		{a, 360, 1, 1},
		{a, 4, 0, 0},
		{a, 1, 0, 0},
		// Steps that are out of range.
		{a, 0, 0, 0},
		{a, -10, 0, 0},
		{a, 361, 0, 0},
		{a, math.MaxInt, 0, 0},
		{a, math.MinInt, 0, 0},
		// Ranges of one angle.
		{angleArm(7, 7, -180, -180), 1, 1, 1},
		{angleArm(180, 180, 0, 0), 360, 1, 1},
		{angleArm(0, 0, -5, 5), 1, 1, 11},
		{angleArm(-5, 5, 0, 0), 1, 11, 1},
		{angleArm(0, 0, 0, 0), 0, 0, 0},
		{angleArm(0, 0, 0, 0), 361, 0, 0},
		// As many cells as are allowed, and one more.
		{angleArm(0, 19, 0, 19), 1, 20, 20},
		{angleArm(0, 20, 0, 19), 1, 0, 0},
		{angleArm(0, 19, 0, 20), 1, 0, 0},
		{angleArm(-180, 161, 0, 0), 18, 19, 1},
		{angleArm(-180, 162, 0, 0), 18, 20, 1},
		{angleArm(-180, 179, 0, 0), 18, 20, 1},
		{angleArm(-180, 180, 0, 0), 18, 0, 0},
		{angleArm(0, 0, -180, 179), 18, 1, 20},
		{angleArm(0, 0, -180, 180), 18, 0, 0},
		{angleArm(-180, 180, -180, 180), 19, 19, 19},
		{angleArm(-180, 180, -180, 180), 180, 3, 3},
		{angleArm(-180, 180, -180, 180), 181, 2, 2},
		{angleArm(-180, 180, -180, 180), 360, 2, 2},
		{angleArm(-180, 179, -180, 180), 360, 1, 2},
		// Arms that have not two links, or are not valid.
		{evenArm(0, 90, 100), 10, 0, 0},
		{evenArm(0, 90, 100, 50, 20), 10, 0, 0},
		{evenArm(0, 90, 100, 50, 20, 10), 10, 0, 0},
		{impl.Arm{}, 10, 0, 0},
		{evenArm(0, 90, 0, 50), 10, 0, 0},
		{evenArm(0, 90, 100, 501), 10, 0, 0},
		{evenArm(0, 181, 100, 50), 10, 0, 0},
		{angleArm(1, 0, 0, 0), 10, 0, 0},
		{angleArm(0, 0, 90, 0), 10, 0, 0},
		{angleArm(math.MinInt, math.MaxInt, 0, 0), 10, 0, 0},
		{arm([]int{100, 50}, []int{0, 0}, []int{90}), 10, 0, 0},
	} {
		if rows, columns := impl.GridSize(c.arm, c.step); rows != c.rows || columns != c.columns {
			t.Errorf("GridSize(%v, %d) is %d, %d, not %d, %d", c.arm, c.step, rows, columns, c.rows, c.columns)
		}
	}
}

// Promise 61, for all steps and all widths of one range.
func TestGridSizeOfAllWidths(t *testing.T) {
	for width := 0; width <= 360; width++ {
		for step := 1; step <= 360; step++ {
			for _, a := range []impl.Arm{
				angleArm(-180, width-180, 180-width, 180), angleArm(-180, width-180, 0, 19), angleArm(100, 119, -180, width-180),
			} {
				wantRows, wantColumns := wantedSize(a, step)
				if rows, columns := impl.GridSize(a, step); rows != wantRows || columns != wantColumns {
					t.Errorf("GridSize(%v, %d) is %d, %d, not %d, %d", a, step, rows, columns, wantRows, wantColumns)
				}
			}
		}
	}
}

// Promise 61.
func TestCoarserGridsHaveFewerCells(t *testing.T) {
	for _, g := range gridArms() {
		lastRows, lastColumns := mostCells, mostCells
		for step := 1; step <= 360; step++ {
			rows, columns := impl.GridSize(g.arm, step)
			if rows == 0 && columns == 0 && lastRows == mostCells && lastColumns == mostCells {
				continue
			}
			if rows < 1 || columns < 1 || rows > lastRows || columns > lastColumns {
				t.Errorf("GridSize(%v, %d) is %d, %d, and %d, %d for the step before it", g.arm, step, rows, columns, lastRows, lastColumns)
			}
			lastRows, lastColumns = rows, columns
		}
		if lastRows == mostCells {
			t.Errorf("%v has no grid with any step", g.arm)
		}
	}
}

// Promise 61, for arguments without a grid.
func TestNoGrid(t *testing.T) {
	eachWithoutGrid(func(a impl.Arm, step int) {
		if rows, columns := impl.GridSize(a, step); rows != 0 || columns != 0 {
			t.Errorf("GridSize(%v, %d) is %d, %d", a, step, rows, columns)
		}
	})
}

func TestCellJointsExamples(t *testing.T) {
	a := angleArm(0, 90, -20, 25)
	for _, c := range []struct {
		arm  impl.Arm
		step int
		cell impl.Cell
		want []int
	}{
		{a, 10, cell(0, 0), []int{0, -20}},
		{a, 10, cell(2, 3), []int{20, 10}},
		{a, 10, cell(9, 0), []int{90, -20}},
		{a, 10, cell(0, 4), []int{0, 20}},
		{a, 10, cell(9, 4), []int{90, 20}},
		{a, 10, cell(4, 4), []int{40, 20}},
		{a, 10, cell(10, 0), nil},
		{a, 10, cell(9, 5), nil},
		{a, 10, cell(0, 5), nil},
		{a, 10, cell(4, 9), nil},
		{a, 10, cell(-1, 0), nil},
		{a, 10, cell(0, -1), nil},
		{a, 10, cell(-1, -1), nil},
		{a, 10, cell(math.MaxInt, 0), nil},
		{a, 10, cell(0, math.MinInt), nil},
		{a, 360, cell(0, 0), []int{0, -20}},
		{a, 360, cell(1, 0), nil},
		{a, 360, cell(0, 1), nil},
		{a, 4, cell(0, 0), nil},
		{a, 0, cell(0, 0), nil},
		{a, -10, cell(0, 0), nil},
		{a, 361, cell(0, 0), nil},
		{angleArm(-180, 180, -180, 180), 360, cell(1, 1), []int{180, 180}},
		{angleArm(-180, 180, -180, 180), 359, cell(1, 0), []int{179, -180}},
		{angleArm(161, 180, -9, 10), 1, cell(19, 19), []int{180, 10}},
		{angleArm(161, 180, -9, 10), 1, cell(20, 19), nil},
		{angleArm(161, 180, -9, 10), 1, cell(19, 20), nil},
		{angleArm(160, 180, -9, 10), 1, cell(0, 0), nil},
		{angleArm(161, 180, -10, 10), 1, cell(0, 0), nil},
		{evenArm(0, 90, 100), 10, cell(0, 0), nil},
		{evenArm(0, 90, 100, 50, 20), 10, cell(0, 0), nil},
		{impl.Arm{}, 10, cell(0, 0), nil},
		{evenArm(0, 90, 0, 50), 10, cell(0, 0), nil},
	} {
		if got := impl.CellJoints(c.arm, c.step, c.cell); !slices.Equal(got, c.want) {
			t.Errorf("CellJoints(%v, %d, %v) is %v, not %v", c.arm, c.step, c.cell, got, c.want)
		}
	}
}

// Promise 62.
func TestCellsHaveValidAngles(t *testing.T) {
	for _, g := range gridArms() {
		g.eachCell(func(c impl.Cell, joints []int) {
			got := impl.CellJoints(g.arm, g.step, c)
			if !slices.Equal(got, joints) || !impl.JointsValid(g.arm, got) {
				t.Errorf("CellJoints(%v, %d, %v) is %v, not %v", g.arm, g.step, c, got, joints)
			}
		})
		if got := impl.CellJoints(g.arm, g.step, cell(0, 0)); !slices.Equal(got, g.arm.Low) {
			t.Errorf("the cell (0, 0) of %v with the step %d has the angles %v", g.arm, g.step, got)
		}
	}
}

// Promise 62. Cells outside the grid have no angles, even if the angles would be
// valid after a wraparound.
func TestCellsOutsideTheGrid(t *testing.T) {
	for _, g := range gridArms() {
		rows, columns := wantedSize(g.arm, g.step)
		numbers := append([]int{-1, -2, -rows, rows + 1, mostCells + 1, math.MaxInt/g.step + 1, 1 << 62, 1 << 63 / 360}, extremes...)
		for _, k := range append(numbers, rows) {
			for b := range columns {
				if got := impl.CellJoints(g.arm, g.step, cell(k, b)); k >= rows && len(got) != 0 || k < 0 && len(got) != 0 {
					t.Errorf("CellJoints(%v, %d, %v) is %v", g.arm, g.step, cell(k, b), got)
				}
			}
		}
		for _, k := range append(numbers, columns) {
			for a := range rows {
				if got := impl.CellJoints(g.arm, g.step, cell(a, k)); k >= columns && len(got) != 0 || k < 0 && len(got) != 0 {
					t.Errorf("CellJoints(%v, %d, %v) is %v", g.arm, g.step, cell(a, k), got)
				}
			}
		}
	}
}

// Promise 62, for arguments without a grid.
func TestNoCellsWithoutAGrid(t *testing.T) {
	eachWithoutGrid(func(a impl.Arm, step int) {
		for _, c := range []impl.Cell{cell(0, 0), cell(0, 1), cell(1, 0), cell(-1, 3), cell(19, 19), cell(math.MinInt, math.MaxInt)} {
			if got := impl.CellJoints(a, step, c); len(got) != 0 {
				t.Errorf("CellJoints(%v, %d, %v) is %v", a, step, c, got)
			}
		}
	})
}

// wantedFree expects a grid and a valid scene.
func (g gridArm) wantedFree(obstacles [][]impl.Point) [][]bool {
	rows, _ := wantedSize(g.arm, g.step)
	table := make([][]bool, rows)
	g.eachCell(func(c impl.Cell, joints []int) {
		table[c.A] = append(table[c.A], wantedClear(g.arm, joints, obstacles))
	})
	return table
}

// closedCells are the cells of a table that are not free, in order.
func closedCells(table [][]bool) []impl.Cell {
	var list []impl.Cell
	for a, row := range table {
		for b, free := range row {
			if !free {
				list = append(list, cell(a, b))
			}
		}
	}
	return list
}

// gridScenes are valid scenes. The diamonds are where the tip is in some cells.
func gridScenes() [][][]impl.Point {
	return append(sampleScenes(),
		[][]impl.Point{diamondAt(150, 0)},
		[][]impl.Point{diamondAt(0, 150), diamondAt(-32, 138)},
		[][]impl.Point{diamondAt(120, 40), diamondAt(40, 120), squareAt(-70, -70)},
		[][]impl.Point{pointsOf(-200, 60, 200, 60, 200, 70, -200, 70)},
		[][]impl.Point{squareAt(-5, -5)},
	)
}

func TestFreeCellsExamples(t *testing.T) {
	g := gridArm{angleArm(0, 90, 0, 40), 10}
	for _, c := range []struct {
		obstacles [][]impl.Point
		closed    []impl.Cell
	}{
		{nil, nil},
		{[][]impl.Point{}, nil},
		{farScene(), nil},
		// Only one corner: at the tip for its angles.
		{[][]impl.Point{diamondAt(150, 0)}, []impl.Cell{cell(0, 0)}},
		{[][]impl.Point{pointsOf(138, 32, 139, 34, 137, 34)}, []impl.Cell{cell(0, 4)}},
		{[][]impl.Point{diamondAt(0, 151)}, []impl.Cell{cell(9, 0)}},
		{[][]impl.Point{diamondAt(-32, 138)}, []impl.Cell{cell(9, 4)}},
		{[][]impl.Point{diamondAt(-32, 138), diamondAt(150, 0)}, []impl.Cell{cell(0, 0), cell(9, 4)}},
		// The tip of the cell (8, 3) is at the lowest corner.
		{[][]impl.Point{diamondAt(0, 150)}, []impl.Cell{cell(8, 3), cell(9, 0)}},
		// The tip of one cell is in it, and the link of another one passes through it.
		{[][]impl.Point{diamondAt(138, 32)}, []impl.Cell{cell(0, 4), cell(1, 1)}},
		// The first link meets it, or the second one for most of its angles.
		{[][]impl.Point{diamondAt(50, 0)}, []impl.Cell{cell(0, 0), cell(0, 1), cell(0, 2), cell(0, 3), cell(0, 4)}},
		{[][]impl.Point{pointsOf(-30, 95, -10, 95, -10, 150, -30, 150)}, []impl.Cell{cell(9, 2), cell(9, 3), cell(9, 4)}},
		{[][]impl.Point{pointsOf(-30, 95, -8, 95, -8, 150, -30, 150)}, []impl.Cell{cell(8, 4), cell(9, 1), cell(9, 2), cell(9, 3), cell(9, 4)}},
	} {
		table := impl.FreeCells(g.arm, g.step, c.obstacles)
		if len(table) != 10 || len(table[0]) != 5 {
			t.Fatalf("FreeCells for %v is %v", c.obstacles, table)
		}
		if closed := closedCells(table); !slices.Equal(closed, c.closed) {
			t.Errorf("the obstacles %v close the cells %v, not %v", c.obstacles, closed, c.closed)
		}
	}
}

// Promise 63.
func TestFreeCellsAreClear(t *testing.T) {
	for _, g := range gridArms() {
		rows, columns := impl.GridSize(g.arm, g.step)
		for _, scene := range gridScenes() {
			table := impl.FreeCells(g.arm, g.step, scene)
			if !equalRows(table, g.wantedFree(scene)) {
				t.Errorf("FreeCells(%v, %d, %v) is %v", g.arm, g.step, scene, table)
			}
			if len(table) != rows || slices.ContainsFunc(table, func(row []bool) bool { return len(row) != columns }) {
				t.Fatalf("FreeCells(%v, %d, %v) has not the sizes %d, %d: %v", g.arm, g.step, scene, rows, columns, table)
			}
			g.eachCell(func(c impl.Cell, joints []int) {
				if table[c.A][c.B] != impl.ArmClear(g.arm, joints, scene) {
					t.Errorf("FreeCells(%v, %d, %v) differs from ArmClear at %v", g.arm, g.step, scene, c)
				}
			})
		}
	}
}

// Promise 63.
func TestAllCellsAreFreeWithoutObstacles(t *testing.T) {
	for _, g := range gridArms() {
		rows, columns := wantedSize(g.arm, g.step)
		want := slices.Repeat([][]bool{slices.Repeat([]bool{true}, columns)}, rows)
		for _, none := range [][][]impl.Point{nil, {}, make([][]impl.Point, 0, 5), gridScenes()[2][:0]} {
			if got := impl.FreeCells(g.arm, g.step, none); !equalRows(got, want) {
				t.Errorf("FreeCells(%v, %d) without obstacles is %v", g.arm, g.step, got)
			}
		}
	}
}

// Promise 63. An obstacle with the base closes all cells: the table is not nil,
// and no cell is free.
func TestNoCellIsFreeAroundTheBase(t *testing.T) {
	for _, g := range gridArms() {
		rows, columns := wantedSize(g.arm, g.step)
		want := slices.Repeat([][]bool{make([]bool, columns)}, rows)
		for n := range mostObstacles {
			if got := impl.FreeCells(g.arm, g.step, append(farScene()[:n], squareAt(-5, -5))); !equalRows(got, want) {
				t.Errorf("FreeCells(%v, %d) around the base is %v", g.arm, g.step, got)
			}
		}
	}
}

// Promise 63, for invalid obstacles, with and without a grid.
func TestNoFreeCellsOfInvalidObstacles(t *testing.T) {
	wrong := []gridArm{{impl.Arm{}, 10}, {evenArm(0, 90, 100), 10}, {evenArm(0, 0, 1, 2, 3), 1}, {angleArm(0, 0, 0, 0), 0}, {angleArm(0, 20, 0, 0), 1}}
	for _, scene := range invalidScenes() {
		for _, g := range append(gridArms()[:5], wrong...) {
			if got := impl.FreeCells(g.arm, g.step, scene); len(got) != 0 {
				t.Errorf("FreeCells(%v, %d) for an invalid scene of %d obstacles is %v", g.arm, g.step, len(scene), got)
			}
		}
	}
}

// Promise 63, for arguments without a grid, with valid and invalid obstacles.
func TestNoFreeCellsWithoutAGrid(t *testing.T) {
	scenes := append(someScenes(), [][]impl.Point{nil}, sameObstacles(squareAt(9, 9), mostObstacles+1))
	eachWithoutGrid(func(a impl.Arm, step int) {
		for _, scene := range scenes {
			if got := impl.FreeCells(a, step, scene); len(got) != 0 {
				t.Errorf("FreeCells(%v, %d, %v) is %v", a, step, scene, got)
			}
		}
	})
}

// isOneOf reports whether only row k of a table is filled, together with its
// spare capacity.
func isOneOf(rows [][]bool, k int) bool {
	for j, row := range rows {
		if slices.Contains(whole(row), j != k) {
			return false
		}
	}
	return true
}

// checkGridMemory overwrites one result, and then the arguments. Nothing else
// may be affected.
func checkGridMemory(t *testing.T, g gridArm, scene [][]impl.Point) {
	a, obstacles := arm(roomy(g.arm.Links), roomy(g.arm.Low), roomy(g.arm.High)), roomyRows(scene, point(7, 7))
	armBefore, obstaclesBefore := copyArm(wholeArm(a)), wholeRows(obstacles)
	table, kept := impl.FreeCells(a, g.step, obstacles), impl.FreeCells(a, g.step, obstacles)
	joints, keptJoints := impl.CellJoints(a, g.step, cell(0, 0)), impl.CellJoints(a, g.step, cell(0, 0))
	impl.GridSize(a, g.step)
	want := copyRows(kept)
	for k := range table {
		for _, row := range table {
			fill(whole(row), false)
		}
		fill(whole(table[k]), true)
		if !isOneOf(table, k) {
			t.Errorf("row %d of the table of %v shares memory with another row", k, g)
		}
	}
	fill(whole(table), nil)
	fill(whole(joints), 999)
	if !equalArms(wholeArm(a), armBefore) || !equalRows(wholeRows(obstacles), obstaclesBefore) {
		t.Errorf("the arm %v or the obstacles %v are changed", g, scene)
	}
	for _, list := range [][]int{a.Links, a.Low, a.High} {
		fill(whole(list), 888)
	}
	fill(whole(obstacles), nil)
	if !equalRows(kept, want) || len(keptJoints) > 0 && !slices.Equal(keptJoints, g.arm.Low) {
		t.Errorf("a result for %v shares memory with an argument or a second result", g)
	}
}

// Promises 61 to 63. No argument is changed, and results share no memory.
func TestGridsShareNothing(t *testing.T) {
	for _, g := range gridArms() {
		for _, scene := range append(gridScenes(), invalidScenes()[:20]...) {
			checkGridMemory(t, g, scene)
		}
	}
	eachWithoutGrid(func(a impl.Arm, step int) {
		checkGridMemory(t, gridArm{a, step}, farScene()[:2])
	})
}
