package tests

import (
	"slices"
	"testing"

	"loop.example/robotcell/impl"
)

func (b belt) plan(list []impl.Item) []int {
	return impl.PickPlan(list, b.speed, b.low, b.high)
}

func (b belt) missed(list []impl.Item) int {
	return impl.MissedItems(list, b.speed, b.low, b.high)
}

// wantedPlan searches every time from the one at which the robot is ready on. It
// finds none if that is after MaxTime.
func (b belt) wantedPlan(list []impl.Item) []int {
	times := make([]int, 0, mostItems)
	busy := 0
	for _, i := range list {
		time := b.wantedPick(i.Place, busy)
		times = append(times, time)
		if time >= 0 {
			busy = time + i.Takes
		}
	}
	return times
}

func negatives(times []int) int {
	return len(slices.DeleteFunc(slices.Clone(times), func(time int) bool { return time >= 0 }))
}

func TestPickPlanExamples(t *testing.T) {
	for _, c := range []struct {
		list             []impl.Item
		speed, low, high int
		want             []int
	}{
		{itemList(-10, 5, -11, 1, -40, 2), 3, 0, 5, []int{4, -1, 14}},
		// No items, and one item.
		{nil, 3, 0, 5, nil},
		{[]impl.Item{}, 0, -10000, 10000, nil},
		{itemList(-10, 5), 3, 0, 5, []int{4}},
		{itemList(-10, 100), 3, 0, 5, []int{4}},
		{itemList(6, 5), 3, 0, 5, []int{-1}},
		{itemList(3, 5), 0, 0, 5, []int{0}},
		// The robot waits for the items, or the items for the robot.
		{itemList(-10, 1, -20, 1, -30, 1), 1, 0, 5, []int{10, 20, 30}},
		{itemList(-10, 10, -20, 10, -30, 10), 1, 0, 5, []int{10, 20, 30}},
		{itemList(-10, 12, -20, 12, -30, 12), 1, 0, 5, []int{10, 22, 34}},
		{itemList(-10, 15, -20, 15, -30, 15), 1, 0, 5, []int{10, 25, -1}},
		{itemList(-10, 15, -20, 15, -35, 15), 1, 0, 5, []int{10, 25, 40}},
		{itemList(0, 1, 0, 1, 0, 1, 0, 1, 0, 1, 0, 1, 0, 1, 0, 1), 1, 0, 5, []int{0, 1, 2, 3, 4, 5, -1, -1}},
		{itemList(0, 100, 0, 50, 0, 1, 0, 1), 0, 0, 0, []int{0, 100, 150, 151}},
		// An item passes while the robot is busy. It takes no time.
		{itemList(-10, 5, -11, 100, -12, 100, -15, 5), 1, 0, 3, []int{10, -1, 15, -1}},
		{itemList(-10, 5, -11, 100, -15, 5, -20, 5), 1, 0, 3, []int{10, -1, 15, 20}},
		{itemList(0, 10, 0, 100, -10, 1), 1, 0, 0, []int{0, -1, 10}},
		{itemList(0, 11, 0, 100, -10, 1), 1, 0, 0, []int{0, -1, -1}},
		{itemList(0, 10, 0, 100, 1, 100, -9, 100, -10, 100), 1, 0, 0, []int{0, -1, -1, -1, 10}},
		// The first items cannot be picked.
		{itemList(1, 100, 2, 100, -3, 1), 1, 0, 0, []int{-1, -1, 3}},
		{itemList(-1, 100, 0, 7, 6, 100, 5, 9), 0, 0, 5, []int{-1, 0, -1, 7}},
		// A later item is picked only after those before it in the list, even if
		// it arrives earlier.
		{itemList(-20, 1, -10, 1), 1, 0, 5, []int{20, -1}},
		{itemList(-20, 1, -10, 1), 1, 0, 11, []int{20, 21}},
		{itemList(-20, 2, -10, 1), 1, 0, 11, []int{20, -1}},
		{itemList(-20, 2, -10, 1, -22, 1), 1, 0, 11, []int{20, -1, 22}},
		// The robot is ready again exactly at MaxTime, one earlier, and one later.
		{itemList(-1900, 100, -2000, 1, -2000, 1), 1, 0, 0, []int{1900, 2000, -1}},
		{itemList(-1900, 99, -2000, 1, -2000, 1), 1, 0, 0, []int{1900, 2000, -1}},
		{itemList(-1900, 99, -1999, 1, -2000, 1), 1, 0, 0, []int{1900, 1999, 2000}},
		{itemList(-1901, 100, -2000, 1, -2000, 1), 1, 0, 10, []int{1901, -1, -1}},
		{itemList(-1900, 100, -1950, 100, -1990, 100), 1, 0, 100, []int{1900, 2000, -1}},
		{itemList(-1900, 99, -1950, 1, -1990, 100, -1990, 1), 1, 0, 100, []int{1900, 1999, 2000, -1}},
		{itemList(-2000, 1, -2000, 1), 1, 0, 0, []int{2000, -1}},
		{itemList(-2000, 100, -2000, 1, 0, 1), 1, 0, 10000, []int{2000, -1, -1}},
		{itemList(-2001, 100, -2000, 1), 1, 0, 0, []int{-1, 2000}},
		// The item passes over the window.
		{itemList(-1, 1, -2, 1, -3, 1), 7, 0, 5, []int{-1, 1, -1}},
		{itemList(-1, 1, -2, 100, -9, 1, -708, 1), 7, 0, 5, []int{-1, 1, -1, -1}},
		{itemList(-1, 1, -2, 100, -9, 1, -709, 1), 7, 0, 5, []int{-1, 1, -1, 102}},
		{itemList(-1, 1, -2, 100, -9, 1, -707, 1), 7, 0, 5, []int{-1, 1, -1, 101}},
		// The greatest speed, the greatest distance, and the whole range as window.
		{itemList(-10000, 100, -10000, 100), 200, 9900, 10000, []int{100, -1}},
		{itemList(-10000, 99, -10000, 1, -10000, 1, -10000, 1), 200, -10000, 10000, []int{0, 99, 100, -1}},
		// Invalid items.
		{itemList(0, 0), 3, 0, 5, nil},
		{itemList(0, 101), 3, 0, 5, nil},
		{itemList(-10001, 1), 3, 0, 5, nil},
		{itemList(0, 1, 10001, 1), 3, 0, 5, nil},
		{sameItems(item(0, 1), 9), 3, 0, 5, nil},
		// An invalid conveyor, also without items.
		{itemList(0, 1), -1, 0, 5, nil},
		{itemList(0, 1), 201, 0, 5, nil},
		{itemList(0, 1), 3, 5, 4, nil},
		{itemList(0, 1), 3, -10001, 5, nil},
		{itemList(0, 1), 3, 0, 10001, nil},
		{nil, -1, 0, 5, nil},
		{nil, 3, 1, 0, nil},
		// Both.
		{itemList(0, 0), 3, 5, 4, nil},
		{sameItems(item(0, 1), 9), 201, 0, 5, nil},
	} {
		if got := impl.PickPlan(c.list, c.speed, c.low, c.high); !slices.Equal(got, c.want) {
			t.Errorf("PickPlan(%v, %d, %d, %d) is %v, not %v", c.list, c.speed, c.low, c.high, got, c.want)
		}
	}
}

func TestMissedItemsExamples(t *testing.T) {
	for _, c := range []struct {
		list                   []impl.Item
		speed, low, high, want int
	}{
		{itemList(-10, 5, -11, 1, -40, 2), 3, 0, 5, 1},
		// No items.
		{nil, 3, 0, 5, 0},
		{[]impl.Item{}, 0, -10000, 10000, 0},
		{nil, 200, 10000, 10000, 0},
		// None of them missed.
		{itemList(-10, 1), 1, 0, 5, 0},
		{itemList(-10, 1, -20, 1, -30, 1), 1, 0, 5, 0},
		{itemList(-10, 12, -20, 12, -30, 12), 1, 0, 5, 0},
		{sameItems(item(0, 100), 8), 0, 0, 0, 0},
		// Some of them.
		{itemList(-10, 15, -20, 15, -30, 15), 1, 0, 5, 1},
		{itemList(-10, 5, -11, 100, -12, 100, -15, 5), 1, 0, 3, 2},
		{sameItems(item(0, 1), 8), 1, 0, 5, 2},
		{sameItems(item(0, 100), 8), 1, 0, 5, 7},
		{itemList(-1900, 100, -2000, 1, -2000, 1), 1, 0, 0, 1},
		{itemList(-1901, 100, -2000, 1, -2000, 1), 1, 0, 10, 2},
		// All of them.
		{itemList(6, 1), 1, 0, 5, 1},
		{itemList(6, 1, 7, 1, 8, 1), 1, 0, 5, 3},
		{sameItems(item(-1, 1), 8), 0, 0, 5, 8},
		{sameItems(item(-2001, 1), 8), 1, 0, 10000, 8},
		// Invalid items.
		{itemList(0, 0), 3, 0, 5, -1},
		{itemList(6, 1, 7, 101), 3, 0, 5, -1},
		{itemList(10001, 1), 3, 0, 5, -1},
		{sameItems(item(0, 1), 9), 3, 0, 5, -1},
		// An invalid conveyor, also without items.
		{itemList(0, 1), -1, 0, 5, -1},
		{itemList(0, 1, 9, 9), 201, 0, 5, -1},
		{itemList(0, 1), 3, 5, 4, -1},
		{itemList(0, 1), 3, -10001, 5, -1},
		{itemList(0, 1), 3, 0, 10001, -1},
		{nil, -1, 0, 5, -1},
		{nil, 3, 1, 0, -1},
		// Both.
		{itemList(0, 0), 3, 5, 4, -1},
		{sameItems(item(0, 1), 9), 201, 0, 5, -1},
	} {
		if got := impl.MissedItems(c.list, c.speed, c.low, c.high); got != c.want {
			t.Errorf("MissedItems(%v, %d, %d, %d) is %d, not %d", c.list, c.speed, c.low, c.high, got, c.want)
		}
	}
}

// eachItemList calls a function with all lists of at most n of some items.
func eachItemList(n int, items []impl.Item, call func(list []impl.Item)) {
	eachList(n, len(items)-1, func(numbers []int) {
		var list []impl.Item
		for _, k := range numbers {
			list = append(list, items[k])
		}
		call(list)
	})
}

// scatteredItems have up to mostItems items each, which arrive one after the other
// at a window about 0, sooner or later than the robot can handle them.
func scatteredItems(n int) [][]impl.Item {
	next := 1
	upTo := func(bound int) int {
		next = next * 48271 % 2147483647
		return next % (bound + 1)
	}
	var lists [][]impl.Item
	for k := range n {
		var list []impl.Item
		place, gap, takes := upTo(40)-20, []int{3, 30, 300, 2400}[k/mostItems%4], []int{2, 20, longestTake}[k%3]
		for range k%mostItems + 1 {
			place -= upTo(gap) - gap/5
			list = append(list, item(max(-greatest, place), 1+upTo(takes-1)))
		}
		lists = append(lists, list)
	}
	return lists
}

// eachPlan calls a function with valid conveyors and items: all short lists of
// items near the window and of items that are handled until about MaxTime, and
// long lists.
func eachPlan(call func(b belt, list []impl.Item)) {
	near := itemList(-9, 2, -6, 1, -3, 4, 0, 1, 2, 100, 4, 3)
	for _, b := range []belt{{0, 0, 2}, {1, 0, 0}, {1, 0, 3}, {1, -6, 20}, {2, 0, 2}, {3, 0, 1}, {5, -1, 3}, {7, -3, 100}} {
		eachItemList(4, near, func(list []impl.Item) { call(b, list) })
	}
	late := itemList(-2001, 1, -2000, 1, -1999, 1, -1950, 50, -1901, 100, -1900, 100, -1899, 100)
	for _, b := range []belt{{1, 0, 0}, {1, 0, 60}, {1, -1, 0}, {2, -3, 0}, {5, 7999, 8100}} {
		eachItemList(3, late, func(list []impl.Item) { call(b, list) })
	}
	for _, list := range scatteredItems(960) {
		for _, b := range []belt{{0, -5, 5}, {1, 0, 9}, {3, -20, 40}, {6, 0, 0}, {6, 0, 5}, {10, 100, 999}, {fastest, 0, 150}, {fastest, -greatest, greatest}} {
			call(b, list)
		}
	}
	for _, list := range [][]impl.Item{fullList(), sameItems(item(-greatest, 1), mostItems), sameItems(item(0, longestTake), mostItems), sameItems(item(greatest, 7), mostItems)} {
		for _, b := range []belt{{0, 0, 0}, {0, -greatest, greatest}, {1, -greatest, greatest}, {5, -1, 0}, {fastest, greatest, greatest}, {fastest, -greatest, greatest}} {
			call(b, list)
		}
	}
}

// checkPlan expects valid items and a valid conveyor.
func checkPlan(t *testing.T, b belt, list []impl.Item) {
	got := b.plan(list)
	if want := b.wantedPlan(list); !slices.Equal(got, want) {
		t.Fatalf("PickPlan(%v, %d, %d, %d) is %v, not %v", list, b.speed, b.low, b.high, got, want)
	}
	handled := 0
	for k, time := range got {
		if time < 0 {
			continue
		}
		if time < handled || time > lastTime || !b.reaches(list[k].Place, time) {
			t.Errorf("PickPlan(%v, %d, %d, %d) is %v, with a wrong time at %d", list, b.speed, b.low, b.high, got, k)
		}
		handled = time + list[k].Takes
	}
}

// Promise 6.
func TestPicksDoNotOverlap(t *testing.T) {
	picked, missed := 0, 0
	eachPlan(func(b belt, list []impl.Item) {
		checkPlan(t, b, list)
		missed += b.missed(list)
		picked += len(list) - b.missed(list)
	})
	if min(picked, missed) < 5000 {
		t.Errorf("only %d items are picked and %d missed", picked, missed)
	}
}

// Promise 6. The first times of a plan do not depend on the items behind them.
func TestLaterItemsDoNotChangeAPlan(t *testing.T) {
	eachPlan(func(b belt, list []impl.Item) {
		times := b.plan(list)
		for n := range len(list) {
			if got := b.plan(list[:n]); !slices.Equal(got, times[:n]) {
				t.Errorf("PickPlan(%v, %d, %d, %d) is %v, and %v with later items", list[:n], b.speed, b.low, b.high, got, times)
			}
		}
	})
}

// Promise 6. Without its missed items a plan has the same times, and with one more
// of them, too.
func TestMissedItemsTakeNoTime(t *testing.T) {
	eachPlan(func(b belt, list []impl.Item) {
		times := b.plan(list)
		for k, time := range times {
			if time >= 0 {
				continue
			}
			if got := b.plan(slices.Delete(slices.Clone(list), k, k+1)); !slices.Equal(got, slices.Delete(slices.Clone(times), k, k+1)) {
				t.Errorf("PickPlan(%v, %d, %d, %d) is %v, and %v without the item %d", list, b.speed, b.low, b.high, times, got, k)
			}
			twice := slices.Insert(slices.Clone(list), k, list[k])
			if got := b.plan(twice); len(twice) <= mostItems && !slices.Equal(got, slices.Insert(slices.Clone(times), k, -1)) {
				t.Errorf("PickPlan(%v, %d, %d, %d) is %v, and %v with the item %d twice", list, b.speed, b.low, b.high, times, got, k)
			}
		}
	})
}

// Promise 6, for the same item several times.
func TestTheSameItemSeveralTimes(t *testing.T) {
	for n := range mostItems + 1 {
		for takes := 1; takes <= longestTake; takes++ {
			for _, b := range []belt{{0, 0, 0}, {1, 0, 0}, {1, 0, 99}, {2, 0, 500}, {9, -3, 1000}, {1, 1200, 1300}, {1, 1800, greatest}, {1, 2001, greatest}} {
				got := b.plan(sameItems(item(0, takes), n))
				for k, time := range got {
					// The robot handles one after the other from the arrival of the
					// first one on, until all of them have passed at once.
					want := max(0, b.low) + k*takes
					if want > lastTime || !b.reaches(0, want) {
						want = -1
					}
					if time != want {
						t.Errorf("the time %d of PickPlan for %d at 0, %d and %v is %d, not %d", k, n, takes, b, time, want)
					}
				}
				if len(got) != n {
					t.Errorf("PickPlan for %d items has %d times", n, len(got))
				}
			}
		}
	}
}

// Promises 6 and 134: on a stopped conveyor, an item in the window is picked as
// soon as the robot is ready.
func TestPlansOfAStoppedConveyor(t *testing.T) {
	b := belt{0, -2, 2}
	for _, list := range append(scatteredItems(400), fullList(), sameItems(item(2, longestTake), mostItems), sameItems(item(3, longestTake), mostItems)) {
		busy := 0
		for k, time := range b.plan(list) {
			want := -1
			if absolute(list[k].Place) <= 2 {
				want = busy
				busy += list[k].Takes
			}
			if time != want {
				t.Errorf("the time %d of PickPlan(%v, 0, -2, 2) is %d, not %d", k, list, time, want)
			}
		}
	}
}

// Promises 6 and 71. The first item has the PickTime from 0 on, and each of the
// others that from the time at which the robot is ready on.
func TestPlansHavePickTimes(t *testing.T) {
	eachPlan(func(b belt, list []impl.Item) {
		busy := 0
		for k, time := range b.plan(list) {
			want := -1
			if busy <= lastTime {
				want = b.pick(list[k].Place, busy)
			}
			if time != want {
				t.Errorf("the time %d of PickPlan(%v, %d, %d, %d) is %d, not %d", k, list, b.speed, b.low, b.high, time, want)
			}
			if time >= 0 {
				busy = time + list[k].Takes
			}
		}
	})
}

// Promise 72.
func TestMissedItemsAreThoseWithoutATime(t *testing.T) {
	eachPlan(func(b belt, list []impl.Item) {
		got := b.missed(list)
		if want := negatives(b.plan(list)); got != want {
			t.Errorf("MissedItems(%v, %d, %d, %d) is %d, not %d", list, b.speed, b.low, b.high, got, want)
		}
		if want := negatives(b.wantedPlan(list)); got != want {
			t.Errorf("MissedItems(%v, %d, %d, %d) is %d, not %d", list, b.speed, b.low, b.high, got, want)
		}
	})
}

// Promise 72. With a window that ends one later the first item is not picked
// later.
func TestLongerWindowsKeepTheFirstItem(t *testing.T) {
	eachPlan(func(b belt, list []impl.Item) {
		wider := belt{b.speed, b.low, b.high + 1}
		if len(list) == 0 || wider.high > greatest {
			return
		}
		before, after := b.plan(list)[0], wider.plan(list)[0]
		if before >= 0 && (after < 0 || after > before) {
			t.Errorf("the first item of %v is picked at %d with %v, and at %d with %v", list, before, b, after, wider)
		}
	})
}

// checkNoPlan expects invalid items, or an invalid conveyor.
func checkNoPlan(t *testing.T, b belt, list []impl.Item) {
	if got := b.plan(list); len(got) != 0 {
		t.Errorf("PickPlan(%v, %d, %d, %d) is %v", list, b.speed, b.low, b.high, got)
	}
	if got := b.missed(list); got != -1 {
		t.Errorf("MissedItems(%v, %d, %d, %d) is %d", list, b.speed, b.low, b.high, got)
	}
}

// Promises 6 and 72, for an invalid conveyor, also without items.
func TestNoPlanWithoutAConveyor(t *testing.T) {
	lists := [][]impl.Item{nil, {}, itemList(0, 1), itemList(greatest, longestTake), itemList(-10, 5, -11, 1, -40, 2), fullList()}
	eachInvalidBelt(func(b belt) {
		for _, list := range lists {
			checkNoPlan(t, b, list)
		}
	})
}

// Promises 6 and 72, for invalid items.
func TestNoPlanWithoutItems(t *testing.T) {
	for _, list := range invalidLists() {
		for _, b := range []belt{{0, 0, 0}, {0, -greatest, greatest}, {3, 0, 5}, {fastest, -greatest, greatest}, {1, greatest, greatest}} {
			checkNoPlan(t, b, list)
		}
	}
}

// Promises 6 and 72, for invalid items on an invalid conveyor.
func TestNoPlanWithoutItemsAndAConveyor(t *testing.T) {
	lists := [][]impl.Item{itemList(0, 0), itemList(0, 1, greatest+1, 1), sameItems(item(0, 1), mostItems+1), badItems()}
	eachInvalidBelt(func(b belt) {
		for _, list := range lists {
			checkNoPlan(t, b, list)
		}
	})
}

// Promises 6 and 72: no items have no times, and none of them is missed.
func TestNoItemsAreNotMissed(t *testing.T) {
	for _, speed := range []int{0, 1, 7, fastest} {
		for _, low := range placesAround {
			for _, high := range bounds(low, greatest, append(slices.Clone(placesAround), low)...) {
				for _, list := range [][]impl.Item{nil, {}, fullList()[:0]} {
					b := belt{speed, low, high}
					if times, missed := b.plan(list), b.missed(list); len(times) != 0 || missed != 0 {
						t.Errorf("without items, PickPlan and MissedItems with %v are %v and %d", b, times, missed)
					}
				}
			}
		}
	}
}

// roomyItems has spare capacity, which no function may write to.
func roomyItems(list []impl.Item) []impl.Item {
	return append(slices.Clone(list), itemList(11, 1, 22, 2, 33, 3)...)[:len(list)]
}

// checkPlanMemory overwrites the items, and then one of three results, with its
// spare capacity. Nothing else may be affected.
func checkPlanMemory(t *testing.T, b belt, list []impl.Item) {
	given := roomyItems(list)
	before := slices.Clone(whole(given))
	impl.ItemsValid(given)
	b.missed(given)
	kept, first, last := b.plan(given), b.plan(given), b.plan(given)
	if !slices.Equal(whole(given), before) {
		t.Errorf("the argument %v is changed with %v", list, b)
	}
	want := slices.Clone(kept)
	fill(whole(given), item(7, 7))
	fill(whole(first), 777)
	if !slices.Equal(kept, want) || !slices.Equal(last, want) || !slices.Equal(b.plan(list), want) {
		t.Errorf("two results of PickPlan for %v with %v share memory, or one with its argument", list, b)
	}
	fill(whole(kept), 888)
	fill(whole(last), 999)
	if slices.ContainsFunc(whole(first), func(n int) bool { return n != 777 }) {
		t.Errorf("two results of PickPlan for %v with %v share memory", list, b)
	}
}

// Promises 6, 70 and 72. The list is left as it was.
func TestPlansChangeAndShareNothing(t *testing.T) {
	lists := append(scatteredItems(96), nil, fullList(), itemList(-10, 5, -11, 1, -40, 2), itemList(0, 0), itemList(5, 1, greatest+1, -1), sameItems(item(3, 3), mostItems+1))
	for _, list := range lists {
		for _, b := range []belt{{0, 0, 5}, {1, 0, 9}, {3, 0, 5}, {fastest, -greatest, greatest}, {-1, 0, 5}, {3, 5, 0}, {3, 0, greatest + 1}} {
			checkPlanMemory(t, b, list)
		}
	}
}
