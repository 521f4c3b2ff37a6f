package tests

import (
	"slices"
	"strings"
	"testing"

	"loop.example/robotcell/impl"
)

const longestPath = 400

// neighboursOf are in the order in which they are visited.
func neighboursOf(c impl.Cell) []impl.Cell {
	return []impl.Cell{cell(c.A-1, c.B), cell(c.A, c.B-1), cell(c.A, c.B+1), cell(c.A+1, c.B)}
}

func isFreeIn(table [][]bool, c impl.Cell) bool {
	return c.A >= 0 && c.A < len(table) && c.B >= 0 && c.B < len(table[c.A]) && table[c.A][c.B]
}

func freeTable(rows int, columns int) [][]bool {
	table := make([][]bool, rows)
	for a := range table {
		table[a] = slices.Repeat([]bool{true}, columns)
	}
	return table
}

// drawn is the table of a picture, in which the cells with '#' are not free,
// together with the cells with letters, in the order of the alphabet.
func drawn(picture ...string) ([][]bool, []impl.Cell) {
	table := make([][]bool, len(picture))
	var path []impl.Cell
	for a, row := range picture {
		for b := range len(row) {
			table[a] = append(table[a], row[b] != '#')
		}
	}
	for letter := 'a'; letter <= 'z'; letter++ {
		for a, row := range picture {
			if b := strings.IndexRune(row, letter); b >= 0 {
				path = append(path, cell(a, b))
			}
		}
	}
	return table, path
}

// eachTable calls a function with all tables with the given sizes.
func eachTable(rows int, columns int, call func(table [][]bool)) {
	for set := range 1 << (rows * columns) {
		table := freeTable(rows, columns)
		for k := range rows * columns {
			table[k/columns][k%columns] = set>>k&1 == 1
		}
		call(table)
	}
}

// scatteredTable has some cells that are not free, about one of every many.
func scatteredTable(rows int, columns int, many int, seed int) [][]bool {
	table := freeTable(rows, columns)
	for a := range table {
		for b := range table[a] {
			seed = (seed*1103515245 + 12345) % (1 << 31)
			table[a][b] = seed>>16%many != 0
		}
	}
	return table
}

// scatteredTables have all kinds of sizes. In some of them a path has to wind.
func scatteredTables() [][][]bool {
	var tables [][][]bool
	for k, size := range [][2]int{{1, 1}, {1, 20}, {20, 1}, {2, 20}, {20, 2}, {5, 7}, {13, 6}, {9, 20}, {20, 11}, {20, 20}} {
		for _, many := range []int{2, 3, 4, 6, 15} {
			tables = append(tables, scatteredTable(size[0], size[1], many, 7*k+many))
		}
		tables = append(tables, freeTable(size[0], size[1]))
	}
	return append(tables, windingTable(), turnedTable(windingTable()))
}

// windingTable is a table of the largest size in which only one way leads from
// the cell (0, 0) to the last row: along every second row, and back in the next
// one of them.
func windingTable() [][]bool {
	table := freeTable(mostCells, mostCells)
	for a := 1; a < mostCells; a += 2 {
		fill(table[a], false)
		table[a][gapOf(a)] = true
	}
	return table
}

// gapOf expects an odd row of the winding table.
func gapOf(a int) int {
	if a%4 == 1 {
		return mostCells - 1
	}
	return 0
}

// windingPath is the way through the winding table.
func windingPath() []impl.Cell {
	var path []impl.Cell
	for a := 0; a < mostCells; a += 2 {
		for k := range mostCells {
			b := k
			if a%4 == 2 {
				b = mostCells - 1 - k
			}
			path = append(path, cell(a, b))
		}
		path = append(path, cell(a+1, gapOf(a+1)))
	}
	return path
}

// turnedTable has the rows of a table as its columns.
func turnedTable(table [][]bool) [][]bool {
	turned := freeTable(len(table[0]), len(table))
	for a, row := range table {
		for b, free := range row {
			turned[b][a] = free
		}
	}
	return turned
}

func turnedPath(path []impl.Cell) []impl.Cell {
	var turned []impl.Cell
	for _, c := range path {
		turned = append(turned, cell(c.B, c.A))
	}
	return turned
}

func reversedPath(path []impl.Cell) []impl.Cell {
	back := slices.Clone(path)
	slices.Reverse(back)
	return back
}

// cellsOf are all cells of a table, and those beside its border.
func cellsOf(table [][]bool) []impl.Cell {
	var list []impl.Cell
	for a := -1; a <= len(table); a++ {
		for b := -1; b <= len(table[0]); b++ {
			list = append(list, cell(a, b))
		}
	}
	return list
}

// fewCellsOf are some free cells of a table.
func fewCellsOf(table [][]bool) []impl.Cell {
	free := slices.DeleteFunc(cellsOf(table), func(c impl.Cell) bool { return !isFreeIn(table, c) })
	var few []impl.Cell
	for _, k := range []int{0, len(free) / 3, len(free) / 2, len(free) - 1} {
		if k >= 0 && k < len(free) {
			few = append(few, free[k])
		}
	}
	return few
}

// wantedPaths are the paths from a cell to all cells that can be reached.
func wantedPaths(table [][]bool, from impl.Cell) map[impl.Cell][]impl.Cell {
	paths := map[impl.Cell][]impl.Cell{}
	if !isFreeIn(table, from) {
		return paths
	}
	paths[from] = []impl.Cell{from}
	for waiting := []impl.Cell{from}; len(waiting) > 0; waiting = waiting[1:] {
		c := waiting[0]
		for _, next := range neighboursOf(c) {
			if isFreeIn(table, next) && paths[next] == nil {
				paths[next] = append(slices.Clone(paths[c]), next)
				waiting = append(waiting, next)
			}
		}
	}
	return paths
}

// wantedLengths are the numbers of cells of the shortest paths from a cell, found
// without a search: they are made smaller as long as one of them is more than 1
// greater than that of a neighbour.
func wantedLengths(table [][]bool, from impl.Cell) map[impl.Cell]int {
	lengths := map[impl.Cell]int{}
	if isFreeIn(table, from) {
		lengths[from] = 1
	}
	for changed := true; changed; {
		changed = false
		for _, c := range cellsOf(table) {
			for _, next := range neighboursOf(c) {
				if lengths[c] > 0 && isFreeIn(table, next) && (lengths[next] == 0 || lengths[next] > lengths[c]+1) {
					lengths[next], changed = lengths[c]+1, true
				}
			}
		}
	}
	return lengths
}

// tablesWithoutPaths have no rows or empty ones, rows of different lengths, or
// more rows or more values than are allowed. In most of them all cells are free.
func tablesWithoutPaths() [][][]bool {
	tables := [][][]bool{
		nil, {}, {nil}, {{}}, {nil, {}, nil}, make([][]bool, mostCells), make([][]bool, mostCells+1),
		{nil, {true}}, {{true}, nil}, {{}, {true}}, {{true}, {}}, {{true, true}, {true}}, {{true}, {true, true}},
		{{true, true, true}, {true, true}, {true, true, true}}, {{true, true, true}, {true, true, true}, {true, true}},
	}
	for _, n := range []int{1, 2, mostCells - 1, mostCells, mostCells + 1, mostCells + 2, 1000} {
		for _, more := range []int{mostCells + 1, mostCells + 2, 3 * mostCells, 1000} {
			tables = append(tables, freeTable(n, more), freeTable(more, n))
		}
	}
	for k := range mostCells {
		for _, n := range []int{0, 1, mostCells - 2, mostCells, mostCells + 1} {
			uneven := freeTable(mostCells, mostCells-1)
			uneven[k] = slices.Repeat([]bool{true}, n)
			tables = append(tables, uneven)
		}
		wide := freeTable(mostCells, mostCells)
		wide[k] = append(wide[k], true)
		tables = append(tables, wide, append(freeTable(mostCells, k), make([]bool, k+1)))
	}
	return tables
}

func TestPlanPathExamples(t *testing.T) {
	for _, picture := range [][]string{
		// From equal to to.
		{"a"},
		{"a.", ".."},
		{"##", "#a"},
		// The order of the neighbours decides.
		{"ab", ".c"},
		{"cb", ".a"},
		{"ba", "c."},
		{"bc", "a."},
		{"abc", ".#d", "..e"},
		{"edc", ".#b", "..a"},
		{"cba", "d#.", "e.."},
		{"cde", "b#.", "a.."},
		{"bcd", "a#e", "..."},
		{"dcb", "e#a", "..."},
		{"ba.", "c#.", "de."},
		{"de.", "c#.", "ba."},
		{"abcd", ".##e", "..#f", "...g"},
		{"abc..", "..d..", "..e.."},
		{"..dcb", "....a", "....."},
		// Only one way, or only one shortest way.
		{"a", "b", "c"},
		{"dcba"},
		{"a#.", "b#.", "cde"},
		{"a#ghi", "b#f#j", "cde#k"},
		{"abcde", "####f", "kjihg"},
		{"...", "abc", "##d", "..e"},
		{".###.", "abcde", ".#.#."},
	} {
		table, path := drawn(picture...)
		if got := impl.PlanPath(table, path[0], path[len(path)-1]); !slices.Equal(got, path) {
			t.Errorf("the path in %v is %v, not %v", picture, got, path)
		}
	}
}

// Promise 5, for two cells of which the first cannot be left, the last cannot be
// entered, or a wall is between them.
func TestCellsThatCannotBeReached(t *testing.T) {
	for _, picture := range [][]string{
		{"a#b"},
		{"a", "#", "b"},
		{"a#", "#b"},
		{"#a", "b#"},
		{"a#.", "##.", "..b"},
		{"...", ".##", ".#b"},
		{"a....", "#####", "..b.."},
		{"..#..", "a.#.b", "..#.."},
		{"....#", "a..#.", "..#..", ".#.b.", "#...."},
		{".....", ".###.", ".#a#.", ".###.", "....b"},
	} {
		table, ends := drawn(picture...)
		if len(ends) == 1 {
			ends = append(ends, cell(0, 0))
		}
		for _, pair := range [][]impl.Cell{ends, reversedPath(ends)} {
			if got := impl.PlanPath(table, pair[0], pair[1]); len(got) != 0 {
				t.Errorf("the path from %v to %v in %v is %v", pair[0], pair[1], picture, got)
			}
		}
	}
}

// checkPath expects a path that is not empty.
func checkPath(t *testing.T, table [][]bool, from impl.Cell, to impl.Cell, path []impl.Cell) {
	if !impl.PathValid(table, path) || path[0] != from || path[len(path)-1] != to {
		t.Errorf("PlanPath(%v, %v, %v) is not a path from cell to cell: %v", table, from, to, path)
	}
	back := impl.PlanPath(table, to, from)
	if len(back) != len(path) || !impl.PathValid(table, back) {
		t.Errorf("PlanPath(%v, %v, %v) is %v, and back it is %v", table, from, to, path, back)
	}
	seen := map[impl.Cell]bool{}
	for _, c := range path {
		if seen[c] {
			t.Errorf("%v occurs twice in PlanPath(%v, %v, %v)", c, table, from, to)
		}
		seen[c] = true
	}
}

// checkPathsFrom tests the paths from a cell to all cells of a table, and to
// those beside its border.
func checkPathsFrom(t *testing.T, table [][]bool, from impl.Cell) {
	want, lengths := wantedPaths(table, from), wantedLengths(table, from)
	for _, to := range cellsOf(table) {
		got := impl.PlanPath(table, from, to)
		if !slices.Equal(got, want[to]) || len(got) != lengths[to] {
			t.Errorf("PlanPath(%v, %v, %v) is %v, not %v", table, from, to, got, want[to])
		}
		if len(got) > 0 {
			checkPath(t, table, from, to, got)
		}
	}
}

// Promise 5, for all cells of all small tables.
func TestPathsAreShortestInSmallTables(t *testing.T) {
	for _, size := range [][2]int{{1, 1}, {1, 2}, {2, 1}, {1, 5}, {5, 1}, {2, 2}, {2, 4}, {4, 2}, {3, 3}} {
		eachTable(size[0], size[1], func(table [][]bool) {
			for _, from := range cellsOf(table) {
				checkPathsFrom(t, table, from)
			}
		})
	}
}

// Promise 5.
func TestPathsAreShortest(t *testing.T) {
	for _, table := range scatteredTables() {
		for _, from := range fewCellsOf(table) {
			checkPathsFrom(t, table, from)
		}
	}
}

// Promise 5. The path goes first along B, and then along A: a cell to which a
// smaller A leads is visited first.
func TestPathsInFreeTables(t *testing.T) {
	for _, size := range [][2]int{{1, 1}, {1, 20}, {20, 1}, {4, 4}, {6, 9}, {20, 20}} {
		table := freeTable(size[0], size[1])
		for _, from := range fewCellsOf(table) {
			for _, to := range cellsOf(table) {
				bend := cell(min(from.A, to.A), to.B)
				if to.A < from.A {
					bend = cell(to.A, from.B)
				}
				want := append(straightWay(from, bend), straightWay(bend, to)...)
				if !isFreeIn(table, to) {
					want = nil
				}
				if got := impl.PlanPath(table, from, to); !slices.Equal(got, slices.Compact(want)) {
					t.Errorf("PlanPath from %v to %v in a free table is %v, not %v", from, to, got, want)
				}
			}
		}
	}
}

// straightWay are the cells from one cell to another one in its row or column,
// both included.
func straightWay(from impl.Cell, to impl.Cell) []impl.Cell {
	a, b := sign(to.A-from.A), sign(to.B-from.B)
	way := []impl.Cell{from}
	for c := from; c != to; {
		c = cell(c.A+a, c.B+b)
		way = append(way, c)
	}
	return way
}

func sign(n int) int {
	return min(1, max(n, -1))
}

// Promise 5.
func TestWindingPath(t *testing.T) {
	table, path := windingTable(), windingPath()
	for _, last := range []int{0, 1, 19, 20, 21, 22, 100, 208, 209} {
		part := path[:last+1]
		if got := impl.PlanPath(table, path[0], path[last]); !slices.Equal(got, part) {
			t.Errorf("the path of %d cells has %d cells: %v", last+1, len(got), got)
		}
		if got := impl.PlanPath(table, path[last], path[0]); !slices.Equal(got, reversedPath(part)) {
			t.Errorf("the path back of %d cells has %d cells: %v", last+1, len(got), got)
		}
		if got := impl.PlanPath(turnedTable(table), path[0], turnedPath(part)[last]); !slices.Equal(got, turnedPath(part)) {
			t.Errorf("the path of %d cells in the turned table has %d cells: %v", last+1, len(got), got)
		}
	}
}

// Promise 5, for cells that are not free or not in the table, together with free
// cells and with each other.
func TestNoPathOfCellsThatAreNotFree(t *testing.T) {
	closed := freeTable(4, 6)
	closed[1][2] = false
	row := freeTable(1, 6)
	row[0][5] = false
	for _, table := range [][][]bool{closed, row, freeTable(mostCells, mostCells), {{false}}, {make([]bool, 5), make([]bool, 5)}} {
		wrong := []impl.Cell{cell(len(table), 0), cell(0, len(table[0])), cell(-1, 0), cell(0, -1), cell(-1, -1), cell(20, 20), cell(-20, 19), cell(1, -5), cell(2, -3)}
		for _, n := range extremes {
			wrong = append(wrong, cell(n, 0), cell(0, n), cell(n, n), cell(n, -n))
		}
		wrong = append(wrong, closedCells(table)...)
		for _, c := range wrong {
			for _, other := range append(wrong, cell(0, 0), cell(0, 3), cell(3, 3)) {
				if got := impl.PlanPath(table, c, other); len(got) != 0 {
					t.Errorf("PlanPath(%v, %v, %v) is %v", table, c, other, got)
				}
				if got := impl.PlanPath(table, other, c); len(got) != 0 {
					t.Errorf("PlanPath(%v, %v, %v) is %v", table, other, c, got)
				}
			}
		}
	}
}

// Promise 5, for invalid tables.
func TestNoPathWithoutATable(t *testing.T) {
	cells := []impl.Cell{cell(0, 0), cell(0, 1), cell(1, 0), cell(1, 1), cell(5, 3), cell(19, 0), cell(0, 19), cell(20, 0), cell(0, 20), cell(-1, 0), cell(0, -1)}
	for _, table := range tablesWithoutPaths() {
		for _, from := range cells {
			for _, to := range cells {
				if got := impl.PlanPath(table, from, to); len(got) != 0 {
					t.Errorf("PlanPath of %d rows from %v to %v is %v", len(table), from, to, got)
				}
			}
		}
	}
}

// Promise 64.
func TestMoreFreeCellsNeverLengthenAPath(t *testing.T) {
	for _, table := range scatteredTables() {
		cells := fewCellsOf(table)
		for k, c := range closedCells(table) {
			if k%5 > 0 {
				continue
			}
			more := copyRows(table)
			more[c.A][c.B] = true
			for _, from := range cells {
				for _, to := range cells {
					before, after := len(impl.PlanPath(table, from, to)), len(impl.PlanPath(more, from, to))
					if before > 0 && (after == 0 || after > before) {
						t.Errorf("with %v the path from %v to %v in %v has %d instead of %d cells", c, from, to, table, after, before)
					}
				}
			}
		}
	}
}

// Promise 64.
func TestPathsInFreeTablesHaveTheLeastLength(t *testing.T) {
	for _, size := range [][2]int{{1, 1}, {1, 20}, {20, 1}, {5, 7}, {9, 4}, {20, 20}} {
		table := freeTable(size[0], size[1])
		for _, from := range fewCellsOf(table) {
			for a := range size[0] {
				for b := range size[1] {
					want := absolute(a-from.A) + absolute(b-from.B) + 1
					if got := len(impl.PlanPath(table, from, cell(a, b))); got != want {
						t.Errorf("the path from %v to (%d, %d) in a free table has %d cells, not %d", from, a, b, got, want)
					}
				}
			}
		}
	}
}

// checkContacts plans paths from a cell to all cells of a grid. It returns how
// many of them there are.
func checkContacts(t *testing.T, g gridArm, scene [][]impl.Point, from impl.Cell) int {
	planned := 0
	free := impl.FreeCells(g.arm, g.step, scene)
	for _, to := range cellsOf(free) {
		var rows [][]int
		for _, c := range impl.PlanPath(free, from, to) {
			rows = append(rows, impl.CellJoints(g.arm, g.step, c))
		}
		if got := impl.FirstContact(g.arm, rows, scene); got != -1 {
			t.Errorf("the path of %v from %v to %v among %v has a contact at %d: %v", g, from, to, scene, got, rows)
		}
		if slices.ContainsFunc(rows, func(joints []int) bool { return !wantedClear(g.arm, joints, scene) }) {
			t.Errorf("the path of %v from %v to %v among %v is not clear: %v", g, from, to, scene, rows)
		}
		if len(rows) > 0 {
			planned++
		}
	}
	return planned
}

// Promise 16.
func TestPlannedPathsAreFreeOfContacts(t *testing.T) {
	for _, g := range gridArms() {
		for _, scene := range gridScenes() {
			free := impl.FreeCells(g.arm, g.step, scene)
			for _, from := range fewCellsOf(free) {
				if planned := checkContacts(t, g, scene, from); planned < 1 {
					t.Errorf("no path of %v begins at the free cell %v among %v", g, from, scene)
				}
			}
			for _, from := range closedCells(free)[:min(3, len(closedCells(free)))] {
				if planned := checkContacts(t, g, scene, from); planned > 0 {
					t.Errorf("%d paths of %v begin at %v among %v", planned, g, from, scene)
				}
			}
		}
	}
}

// Promise 16. The second link has to be bent before the first one can turn past
// the obstacle.
func TestPathAroundAnObstacle(t *testing.T) {
	a := angleArm(0, 90, 0, 90)
	scene := [][]impl.Point{pointsOf(90, 90, 110, 90, 110, 110, 90, 110)}
	free := impl.FreeCells(a, 10, scene)
	var stretched, bent [][]int
	for k := range 10 {
		stretched = append(stretched, []int{10 * k, 0})
	}
	path := impl.PlanPath(free, cell(0, 0), cell(9, 0))
	for _, c := range path {
		bent = append(bent, impl.CellJoints(a, 10, c))
	}
	if got := impl.FirstContact(a, stretched, scene); got != 4 {
		t.Errorf("the first contact of the stretched arm is at %d", got)
	}
	if len(path) <= 10 || impl.FirstContact(a, bent, scene) != -1 {
		t.Errorf("the path around the obstacle is %v", path)
	}
}

// Promise 16, for arguments for which there are no free cells.
func TestNoPathsWithoutFreeCells(t *testing.T) {
	for _, scene := range invalidScenes()[:20] {
		g := gridArms()[4]
		if got := impl.PlanPath(impl.FreeCells(g.arm, g.step, scene), cell(0, 0), cell(0, 0)); len(got) != 0 {
			t.Errorf("among %v the path of %v is %v", scene, g, got)
		}
	}
	eachWithoutGrid(func(a impl.Arm, step int) {
		if got := impl.PlanPath(impl.FreeCells(a, step, nil), cell(0, 0), cell(0, 0)); len(got) != 0 {
			t.Errorf("without a grid the path of %v with the step %d is %v", a, step, got)
		}
	})
}
