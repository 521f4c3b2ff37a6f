package tests

import (
	"slices"
	"testing"

	"loop.example/robotcell/impl"
)

// cellList has the cells with the given coordinates, in pairs.
func cellList(coordinates ...int) []impl.Cell {
	var list []impl.Cell
	for k := 0; k+1 < len(coordinates); k += 2 {
		list = append(list, cell(coordinates[k], coordinates[k+1]))
	}
	return list
}

// backAndForth is a list of n cells that goes from a cell to a neighbour and
// back.
func backAndForth(first impl.Cell, second impl.Cell, n int) []impl.Cell {
	return slices.Repeat([]impl.Cell{first, second}, n)[:n]
}

// isPath expects a valid table.
func isPath(table [][]bool, path []impl.Cell) bool {
	for k, c := range path {
		if !isFreeIn(table, c) || k > 0 && !slices.Contains(neighboursOf(path[k-1]), c) {
			return false
		}
	}
	return len(path) >= 1 && len(path) <= longestPath
}

// eachCellList calls a function with all lists of at most n of some cells.
func eachCellList(n int, cells []impl.Cell, call func(path []impl.Cell)) {
	eachList(n, len(cells)-1, func(list []int) {
		var path []impl.Cell
		for _, k := range list {
			path = append(path, cells[k])
		}
		call(path)
	})
}

func TestPathValidExamples(t *testing.T) {
	table, _ := drawn("...#", "....", "#...")
	for _, c := range []struct {
		path []impl.Cell
		want bool
	}{
		{nil, false},
		{[]impl.Cell{}, false},
		{cellList(0, 0), true},
		{cellList(2, 3), true},
		{cellList(0, 3), false},
		{cellList(2, 0), false},
		{cellList(3, 0), false},
		{cellList(0, 4), false},
		{cellList(-1, 0), false},
		{cellList(0, -1), false},
		// A step to each neighbour.
		{cellList(1, 1, 0, 1), true},
		{cellList(1, 1, 2, 1), true},
		{cellList(1, 1, 1, 0), true},
		{cellList(1, 1, 1, 2), true},
		{cellList(0, 0, 0, 1, 0, 2, 1, 2, 1, 3, 2, 3), true},
		// A cell twice in a row, first, in the middle and last.
		{cellList(0, 0, 0, 0), false},
		{cellList(0, 0, 0, 0, 0, 1, 0, 2), false},
		{cellList(0, 0, 0, 1, 0, 1, 0, 2), false},
		{cellList(0, 0, 0, 1, 0, 2, 0, 2), false},
		// Diagonal steps.
		{cellList(0, 0, 1, 1), false},
		{cellList(1, 1, 0, 0), false},
		{cellList(0, 2, 1, 1), false},
		{cellList(1, 1, 0, 2), false},
		{cellList(0, 0, 0, 1, 1, 2, 1, 3), false},
		{cellList(1, 0, 1, 1, 1, 2, 2, 3), false},
		// Steps of two and more.
		{cellList(0, 0, 0, 2), false},
		{cellList(0, 2, 0, 0), false},
		{cellList(0, 1, 2, 1), false},
		{cellList(2, 1, 0, 1), false},
		{cellList(1, 0, 1, 3), false},
		{cellList(0, 0, 1, 2), false},
		{cellList(0, 0, 0, 1, 1, 1, 1, 3), false},
		// From the end of a row to the beginning of the next one.
		{cellList(1, 3, 2, 0), false},
		{cellList(0, 2, 1, 0), false},
		// A cell that is not free, first, in the middle and last.
		{cellList(0, 3, 0, 2, 0, 1), false},
		{cellList(0, 2, 0, 3, 1, 3), false},
		{cellList(0, 1, 0, 2, 0, 3), false},
		// A cell outside the table, first, in the middle and last.
		{cellList(-1, 1, 0, 1, 1, 1), false},
		{cellList(0, 0, -1, 0, 0, 0), false},
		{cellList(1, 1, 0, 1, -1, 1), false},
		{cellList(1, -1, 1, 0, 1, 1), false},
		{cellList(1, 0, 1, -1, 1, 0), false},
		{cellList(1, 1, 1, 0, 1, -1), false},
		{cellList(3, 1, 2, 1, 1, 1), false},
		{cellList(2, 1, 3, 1, 2, 1), false},
		{cellList(1, 1, 2, 1, 3, 1), false},
		{cellList(1, 4, 1, 3, 1, 2), false},
		{cellList(1, 3, 1, 4, 1, 3), false},
		{cellList(1, 2, 1, 3, 1, 4), false},
		// Paths that return to a cell.
		{cellList(0, 0, 0, 1, 0, 0), true},
		{cellList(0, 0, 0, 1, 1, 1, 1, 0, 0, 0), true},
		{cellList(0, 0, 0, 1, 1, 1, 1, 0, 0, 0, 0, 1), true},
	} {
		if got := impl.PathValid(table, c.path); got != c.want {
			t.Errorf("PathValid(%v, %v) is %v", table, c.path, got)
		}
	}
}

// Promise 65, for all short lists of cells in small tables and beside them.
func TestPathValidOfShortLists(t *testing.T) {
	for _, size := range [][2]int{{1, 1}, {1, 2}, {2, 1}, {2, 2}, {1, 3}} {
		eachTable(size[0], size[1], func(table [][]bool) {
			eachCellList(3, cellsOf(table), func(path []impl.Cell) {
				if got := impl.PathValid(table, path); got != isPath(table, path) {
					t.Errorf("PathValid(%v, %v) is %v", table, path, got)
				}
			})
		})
	}
	table, _ := drawn("..", "#.", "..")
	eachCellList(5, cellList(0, 0, 0, 1, 1, 1, 2, 0, 2, 1, 1, 0), func(path []impl.Cell) {
		if got := impl.PathValid(table, path); got != isPath(table, path) {
			t.Errorf("PathValid(%v, %v) is %v", table, path, got)
		}
	})
}

// Promise 65.
func TestPathValidOfLongLists(t *testing.T) {
	for _, table := range [][][]bool{freeTable(1, 2), freeTable(20, 20), windingTable()} {
		for _, n := range []int{0, 1, 2, 3, 100, 399, 400, 401, 402, 1000} {
			path := backAndForth(cell(0, 0), cell(0, 1), n)
			if got := impl.PathValid(table, path); got != (n >= 1 && n <= longestPath) {
				t.Errorf("PathValid of %d cells is %v", n, got)
			}
			for _, k := range []int{0, 1, n / 2, n - 1} {
				if k < 0 || k >= n {
					continue
				}
				for _, c := range cellList(0, 2, 2, 0, 1, 1, -1, 0, 0, -1, 20, 0) {
					wrong := slices.Clone(path)
					wrong[k] = c
					if got := impl.PathValid(table, wrong); got != isPath(table, wrong) {
						t.Errorf("PathValid of %d cells with %v at %d is %v", n, c, k, got)
					}
				}
			}
		}
	}
}

// Promise 65, for cells far outside the table, which may seem to be beside
// another one by a wraparound.
func TestPathValidOfFarCells(t *testing.T) {
	for _, table := range [][][]bool{freeTable(1, 1), freeTable(3, 4), freeTable(20, 20)} {
		for _, n := range append([]int{-2, -1, 20, 21, 400, -400}, extremes...) {
			for _, far := range cellList(n, 0, 0, n, n, n, n, -n) {
				for _, path := range [][]impl.Cell{{far}, {far, cell(0, 0)}, {cell(0, 0), far}, {far, far}, {cell(0, 0), far, cell(0, 0)}, {far, cell(far.A-1, far.B)}} {
					if impl.PathValid(table, path) {
						t.Errorf("PathValid(%v, %v) is true", table, path)
					}
				}
			}
		}
	}
}

// Promise 65, for invalid tables.
func TestNoPathIsValidWithoutATable(t *testing.T) {
	paths := [][]impl.Cell{
		nil, {}, cellList(0, 0), cellList(0, 0, 0, 1), cellList(0, 0, 1, 0), cellList(1, 1), cellList(19, 0), cellList(0, 19), cellList(20, 0), cellList(0, 20), cellList(0, -1),
		backAndForth(cell(0, 0), cell(1, 0), 400), backAndForth(cell(0, 0), cell(0, 1), 401),
	}
	for _, table := range tablesWithoutPaths() {
		for _, path := range paths {
			if impl.PathValid(table, path) {
				t.Errorf("PathValid of %d rows and %v is true", len(table), path)
			}
		}
	}
}

// checkParts expects a valid path.
func checkParts(t *testing.T, table [][]bool, path []impl.Cell) {
	if !impl.PathValid(table, path) {
		t.Errorf("PathValid(%v, %v) is false", table, path)
	}
	back := reversedPath(path)
	if !impl.PathValid(table, back) {
		t.Errorf("PathValid(%v, %v) is false for the reversed path", table, path)
	}
	for n := range len(path) + 1 {
		if got := impl.PathValid(table, path[:n]); got != (n > 0) {
			t.Errorf("PathValid of the first %d cells of %v is %v", n, path, got)
		}
		if n < len(path) && impl.PathValid(table, slices.Insert(slices.Clone(path), n, path[n])) {
			t.Errorf("with the cell %d twice in a row %v is valid", n, path)
		}
	}
}

// Promise 65.
func TestPartsOfPathsArePaths(t *testing.T) {
	for _, table := range scatteredTables() {
		cells := fewCellsOf(table)
		for _, from := range cells {
			for _, to := range cells {
				if path := impl.PlanPath(table, from, to); len(path) > 0 {
					checkParts(t, table, path)
				}
			}
		}
	}
	checkParts(t, windingTable(), windingPath())
	checkParts(t, freeTable(1, 2), backAndForth(cell(0, 1), cell(0, 0), longestPath-1))
	checkParts(t, freeTable(20, 20), slices.Concat(windingPath(), reversedPath(windingPath())[1:190]))
}
