package tests

import (
	"math"
	"math/big"
	"slices"
	"testing"

	"loop.example/robotcell/impl"
)

// exactStep is the difference of two numbers, as text.
func exactStep(from int, to int) string {
	return new(big.Int).Sub(big.NewInt(int64(to)), big.NewInt(int64(from))).String()
}

func wantedCorners(path []impl.Cell) []impl.Cell {
	if len(path) > longestPath {
		return nil
	}
	if len(path) <= 2 {
		return path
	}
	corners := []impl.Cell{path[0]}
	for k := 1; k < len(path)-1; k++ {
		before, c, next := path[k-1], path[k], path[k+1]
		if exactStep(before.A, c.A) != exactStep(c.A, next.A) || exactStep(before.B, c.B) != exactStep(c.B, next.B) {
			corners = append(corners, c)
		}
	}
	return append(corners, path[len(path)-1])
}

func TestPathCornersExamples(t *testing.T) {
	for _, c := range []struct {
		path []impl.Cell
		want []impl.Cell
	}{
		{nil, nil},
		{[]impl.Cell{}, nil},
		// At most two cells.
		{cellList(3, 4), cellList(3, 4)},
		{cellList(-7, 1000), cellList(-7, 1000)},
		{cellList(0, 0, 0, 1), cellList(0, 0, 0, 1)},
		{cellList(5, 5, 5, 5), cellList(5, 5, 5, 5)},
		{cellList(9, 0, -3, 7), cellList(9, 0, -3, 7)},
		// Three cells.
		{cellList(0, 0, 0, 1, 0, 2), cellList(0, 0, 0, 2)},
		{cellList(0, 0, 0, 1, 1, 1), cellList(0, 0, 0, 1, 1, 1)},
		{cellList(2, 0, 1, 0, 0, 0), cellList(2, 0, 0, 0)},
		{cellList(0, 0, 0, 1, 0, 0), cellList(0, 0, 0, 1, 0, 0)},
		// Straight, with a turn at every cell, and with turns at some cells.
		{cellList(0, 0, 1, 0, 2, 0, 3, 0, 4, 0, 5, 0), cellList(0, 0, 5, 0)},
		{cellList(0, 5, 0, 4, 0, 3, 0, 2), cellList(0, 5, 0, 2)},
		{cellList(0, 0, 0, 1, 1, 1, 1, 2, 2, 2), cellList(0, 0, 0, 1, 1, 1, 1, 2, 2, 2)},
		{cellList(0, 0, 0, 1, 0, 2, 1, 2, 2, 2), cellList(0, 0, 0, 2, 2, 2)},
		{cellList(0, 0, 1, 0, 2, 0, 2, 1, 2, 2, 1, 2, 0, 2), cellList(0, 0, 2, 0, 2, 2, 0, 2)},
		// A path that turns back.
		{cellList(0, 0, 0, 1, 0, 2, 0, 1, 0, 0), cellList(0, 0, 0, 2, 0, 0)},
		{cellList(0, 0, 1, 0, 0, 0, 1, 0), cellList(0, 0, 1, 0, 0, 0, 1, 0)},
		// Steps that are not by 1: only equal ones make a straight path.
		{cellList(0, 0, 2, 0, 4, 0), cellList(0, 0, 4, 0)},
		{cellList(0, 0, 1, 0, 3, 0), cellList(0, 0, 1, 0, 3, 0)},
		{cellList(0, 0, 2, 0, 3, 0, 4, 0), cellList(0, 0, 2, 0, 4, 0)},
		{cellList(0, 0, 1, 1, 2, 2, 3, 3), cellList(0, 0, 3, 3)},
		{cellList(0, 0, 1, 1, 2, 0, 3, -1), cellList(0, 0, 1, 1, 3, -1)},
		{cellList(0, 0, 1, 2, 2, 3), cellList(0, 0, 1, 2, 2, 3)},
		{cellList(0, 0, 2, 1, 3, 2), cellList(0, 0, 2, 1, 3, 2)},
		{cellList(-10, 20, 0, 13, 10, 6, 20, -1), cellList(-10, 20, 20, -1)},
		// A cell twice or more times in a row.
		{cellList(1, 1, 1, 1, 1, 1), cellList(1, 1, 1, 1)},
		{cellList(1, 1, 1, 1, 1, 1, 1, 1), cellList(1, 1, 1, 1)},
		{cellList(0, 0, 0, 1, 0, 1, 0, 2), cellList(0, 0, 0, 1, 0, 1, 0, 2)},
		{cellList(0, 0, 0, 0, 0, 1, 0, 2), cellList(0, 0, 0, 0, 0, 2)},
		{cellList(0, 0, 0, 1, 0, 1, 0, 1, 0, 2), cellList(0, 0, 0, 1, 0, 1, 0, 2)},
		{cellList(0, 0, 0, 1, 0, 2, 0, 2), cellList(0, 0, 0, 2, 0, 2)},
	} {
		if got := impl.PathCorners(c.path); !slices.Equal(got, c.want) {
			t.Errorf("PathCorners(%v) is %v, not %v", c.path, got, c.want)
		}
	}
}

// Promise 66. The steps between far cells are not those to which they wrap
// around.
func TestCornersOfFarCells(t *testing.T) {
	low, high := math.MinInt, math.MaxInt
	for _, c := range []struct {
		path []impl.Cell
		want []impl.Cell
	}{
		{cellList(low, 0, 0, 0, low, 0), cellList(low, 0, 0, 0, low, 0)},
		{cellList(0, low, 0, 0, 0, low), cellList(0, low, 0, 0, 0, low)},
		{cellList(low, 0, -1, 0, high-1, 0), cellList(low, 0, high-1, 0)},
		{cellList(high-1, 0, high, 0, low, 0), cellList(high-1, 0, high, 0, low, 0)},
		{cellList(0, low+1, 0, low, 0, high), cellList(0, low+1, 0, low, 0, high)},
		{cellList(low, high, high, low, low, high), cellList(low, high, high, low, low, high)},
	} {
		if got := impl.PathCorners(c.path); !slices.Equal(got, c.want) {
			t.Errorf("PathCorners(%v) is %v, not %v", c.path, got, c.want)
		}
	}
	numbers := append([]int{-1, 0, 1, 1 << 62, -1 << 62, -1<<62 - 1}, extremes...)
	eachList(3, len(numbers)-1, func(list []int) {
		var path, other []impl.Cell
		for _, k := range list {
			path, other = append(path, cell(numbers[k], 5)), append(other, cell(-3, numbers[k]))
		}
		if got := impl.PathCorners(path); !slices.Equal(got, wantedCorners(path)) {
			t.Errorf("PathCorners(%v) is %v", path, got)
		}
		if got := impl.PathCorners(other); !slices.Equal(got, wantedCorners(other)) {
			t.Errorf("PathCorners(%v) is %v", other, got)
		}
	})
}

// Promise 66, for all short lists of some cells.
func TestCornersOfShortLists(t *testing.T) {
	for _, cells := range [][]impl.Cell{cellList(0, 0, 0, 1, 1, 0, 1, 1), cellList(0, 0, 1, 0, 2, 0, 3, 0, 5, 0), cellList(0, 0, 1, 1, 2, 2, 2, 1, 0, 4)} {
		eachCellList(6, cells, func(path []impl.Cell) {
			if got := impl.PathCorners(path); !slices.Equal(got, wantedCorners(path)) {
				t.Errorf("PathCorners(%v) is %v, not %v", path, got, wantedCorners(path))
			}
		})
	}
}

// stairs are n cells with a turn at each of them.
func stairs(n int) []impl.Cell {
	var path []impl.Cell
	for k := range n {
		path = append(path, cell(k/2, (k+1)/2))
	}
	return path
}

// Promise 66. The list needs not be a path in a table.
func TestCornersOfLongLists(t *testing.T) {
	for _, n := range []int{1, 2, 3, 4, 100, 398, 399, 400, 401, 402, 1000} {
		straight := straightWay(cell(0, 0), cell(n-1, 0))
		still := slices.Repeat(cellList(4, 4), n)
		ends, same, turns := cellList(0, 0, n-1, 0), cellList(4, 4, 4, 4), stairs(n)
		back := backAndForth(cell(0, 0), cell(0, 1), n)
		wantedTurns, wantedBack := turns, back
		if n == 1 {
			ends, same = ends[:1], same[:1]
		}
		if n > longestPath {
			ends, same, wantedTurns, wantedBack = nil, nil, nil, nil
		}
		for k, pair := range [][2][]impl.Cell{{straight, ends}, {still, same}, {turns, wantedTurns}, {back, wantedBack}} {
			if got := impl.PathCorners(pair[0]); !slices.Equal(got, pair[1]) {
				t.Errorf("PathCorners of list %d of %d cells is %v", k, n, got)
			}
		}
	}
}

// filled is the path with the given corners, with all cells between them.
func filled(corners []impl.Cell) []impl.Cell {
	path := slices.Clone(corners[:1])
	for k := 1; k < len(corners); k++ {
		path = append(path, straightWay(corners[k-1], corners[k])[1:]...)
	}
	return path
}

// checkCorners expects a planned path, thus one that is not empty.
func checkCorners(t *testing.T, path []impl.Cell) {
	corners := impl.PathCorners(path)
	if len(corners) == 0 || corners[0] != path[0] || corners[len(corners)-1] != path[len(path)-1] {
		t.Fatalf("PathCorners(%v) has not the same ends: %v", path, corners)
	}
	for k := 1; k < len(corners); k++ {
		a, b := corners[k-1], corners[k]
		if (a.A == b.A) == (a.B == b.B) {
			t.Fatalf("PathCorners(%v) goes from %v to %v", path, a, b)
		}
	}
	if !slices.Equal(corners, wantedCorners(path)) || !slices.Equal(filled(corners), path) {
		t.Errorf("PathCorners(%v) is %v", path, corners)
	}
	if !slices.Equal(impl.PathCorners(reversedPath(path)), reversedPath(corners)) {
		t.Errorf("PathCorners(%v) differs from that of the reversed path", path)
	}
}

// Promise 66.
func TestCornersDescribeAPath(t *testing.T) {
	for _, table := range scatteredTables() {
		for _, from := range fewCellsOf(table) {
			for _, to := range cellsOf(table) {
				if path := impl.PlanPath(table, from, to); len(path) > 0 {
					checkCorners(t, path)
				}
			}
		}
	}
	checkCorners(t, windingPath())
	checkCorners(t, turnedPath(windingPath()))
}

func roomyCells(path []impl.Cell) []impl.Cell {
	return append(slices.Clone(path), cellList(7, 7, 8, 8, 9, 9)...)[:len(path)]
}

// checkPathMemory overwrites one set of results, and then the arguments. Nothing
// else may be affected.
func checkPathMemory(t *testing.T, table [][]bool, path []impl.Cell, from impl.Cell, to impl.Cell) {
	free, cells := roomyRows(table, true), roomyCells(path)
	freeBefore, cellsBefore := wholeRows(free), slices.Clone(whole(cells))
	impl.PathValid(free, cells)
	planned, keptPlanned := impl.PlanPath(free, from, to), impl.PlanPath(free, from, to)
	corners, keptCorners := impl.PathCorners(cells), impl.PathCorners(cells)
	wantPlanned, wantCorners := slices.Clone(keptPlanned), slices.Clone(keptCorners)
	fill(whole(planned), cell(77, 77))
	fill(whole(corners), cell(77, 77))
	if !equalRows(wholeRows(free), freeBefore) || !slices.Equal(whole(cells), cellsBefore) {
		t.Errorf("the table %v or the path %v is changed", table, path)
	}
	for _, row := range whole(free) {
		fill(whole(row), false)
	}
	fill(whole(cells), cell(88, 88))
	if !slices.Equal(keptPlanned, wantPlanned) || !slices.Equal(keptCorners, wantCorners) {
		t.Errorf("a result for %v and %v shares memory with an argument or another result", table, path)
	}
}

// Promises 5, 65 and 66. No argument is changed, and results share no memory,
// also where a list is returned unchanged.
func TestPathsShareNothing(t *testing.T) {
	for _, table := range scatteredTables() {
		cells := fewCellsOf(table)
		for _, from := range cells {
			for _, to := range cells {
				path := impl.PlanPath(table, from, to)
				checkPathMemory(t, table, path, from, to)
				checkPathMemory(t, table, path[:min(2, len(path))], from, to)
				checkPathMemory(t, table, stairs(len(path)), from, to)
			}
		}
	}
	for _, table := range tablesWithoutPaths() {
		for _, n := range []int{0, 1, 2, 3, 400, 401} {
			checkPathMemory(t, table, stairs(n), cell(0, 0), cell(0, 1))
			checkPathMemory(t, table, backAndForth(cell(0, 0), cell(1, 0), n), cell(1, 0), cell(1, 0))
		}
	}
}
