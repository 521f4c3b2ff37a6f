package tests

import (
	"slices"
	"testing"

	"loop.example/robotcell/impl"
)

const (
	mostItems   = impl.MaxItems
	longestTake = 100
)

// placesAround are at the bounds of the range of a place and inside it.
var placesAround = []int{-greatest, -greatest + 1, -1, 0, 1, 7, greatest - 1, greatest}

// takesAround are at the bounds of the range of the time for an item and inside it.
var takesAround = []int{1, 2, 50, longestTake - 1, longestTake}

func item(place int, takes int) impl.Item {
	return impl.Item{Place: place, Takes: takes}
}

// itemList has the items with the given places and times, in pairs.
func itemList(numbers ...int) []impl.Item {
	var list []impl.Item
	for k := 0; k+1 < len(numbers); k += 2 {
		list = append(list, item(numbers[k], numbers[k+1]))
	}
	return list
}

func sameItems(i impl.Item, n int) []impl.Item {
	return slices.Repeat([]impl.Item{i}, n)
}

// badItems have a place, a time, or both out of range.
func badItems() []impl.Item {
	list := itemList(0, 0, 0, -1, 0, longestTake+1, greatest+1, 1, -greatest-1, 1, greatest+1, longestTake, -greatest-1, longestTake)
	list = append(list, itemList(greatest+1, 0, -greatest-1, longestTake+1, greatest, 0, -greatest, longestTake+1)...)
	for _, n := range extremes {
		list = append(list, item(n, 1), item(0, n), item(n, n), item(n, longestTake), item(greatest, n))
	}
	return list
}

// fullList has as many items as are possible, with the bounds of both ranges.
func fullList() []impl.Item {
	return itemList(-greatest, 1, greatest, longestTake, 0, 50, -1, 1, 1, longestTake, greatest, 1, -greatest, longestTake, 7, 3)
}

// invalidLists have too many items, or an invalid one at each place.
func invalidLists() [][]impl.Item {
	lists := [][]impl.Item{
		sameItems(item(0, 1), mostItems+1), sameItems(item(-greatest, longestTake), mostItems+1), sameItems(item(0, 1), mostItems+2), sameItems(item(0, 1), 2*mostItems), sameItems(item(0, 1), 1000),
		append(fullList(), item(0, 1)), sameItems(item(0, 0), mostItems+1), sameItems(item(0, 0), mostItems),
	}
	for n := 1; n <= mostItems; n++ {
		for k := range n {
			for _, bad := range badItems() {
				list := fullList()[:n]
				list[k] = bad
				lists = append(lists, list)
			}
		}
	}
	return lists
}

func TestConveyorConstants(t *testing.T) {
	if impl.MaxItems != 8 || impl.MaxTime != 2000 {
		t.Fatalf("MaxItems and MaxTime are %d and %d", impl.MaxItems, impl.MaxTime)
	}
}

func TestItemsValidExamples(t *testing.T) {
	for _, c := range []struct {
		list []impl.Item
		want bool
	}{
		{nil, true},
		{[]impl.Item{}, true},
		{itemList(0, 1), true},
		{[]impl.Item{{}}, false},
		// Takes at its bounds, and one beyond each.
		{itemList(0, 0), false},
		{itemList(0, 100), true},
		{itemList(0, 101), false},
		{itemList(0, -1), false},
		// Place at its bounds, and one beyond each.
		{itemList(-10000, 1), true},
		{itemList(10000, 1), true},
		{itemList(-10001, 1), false},
		{itemList(10001, 1), false},
		// Both at a bound, or one beyond.
		{itemList(-10000, 100), true},
		{itemList(10000, 100), true},
		{itemList(-10001, 100), false},
		{itemList(10001, 101), false},
		{itemList(10000, 0), false},
		// Some items, equal ones too, in any order.
		{itemList(-10, 5, -11, 1, -40, 2), true},
		{itemList(5, 5, 5, 5, 5, 5), true},
		{itemList(3, 1, 2, 1, 1, 1, 0, 1), true},
		// As many items as are possible, and one more.
		{sameItems(item(0, 1), 8), true},
		{sameItems(item(0, 1), 9), false},
		// An invalid item at the begin, in the middle and at the end.
		{itemList(0, 0, 1, 1, 2, 2), false},
		{itemList(1, 1, 0, 0, 2, 2), false},
		{itemList(1, 1, 2, 2, 0, 0), false},
		{itemList(10001, 1, 1, 1, 2, 2), false},
		{itemList(1, 1, 10001, 1, 2, 2), false},
		{itemList(1, 1, 2, 2, 10001, 1), false},
	} {
		if got := impl.ItemsValid(c.list); got != c.want {
			t.Errorf("ItemsValid(%v) is %v", c.list, got)
		}
	}
}

// Promise 70, for every time that an item can take, and every place next to the
// bounds.
func TestItemsHavePlacesAndTimes(t *testing.T) {
	for takes := -longestTake; takes <= 3*longestTake; takes++ {
		for _, place := range slices.Concat(placesAround, outOf(-greatest, greatest)) {
			want := takes >= 1 && takes <= longestTake && place >= -greatest && place <= greatest
			if got := impl.ItemsValid(itemList(place, takes)); got != want {
				t.Errorf("ItemsValid of %d and %d is %v", place, takes, got)
			}
		}
	}
	for place := -greatest - 100; place <= greatest+100; place++ {
		want := place >= -greatest && place <= greatest
		if got := impl.ItemsValid(itemList(place, longestTake)); got != want {
			t.Errorf("ItemsValid of the place %d is %v", place, got)
		}
	}
}

// Promise 70.
func TestItemsValidOfLongLists(t *testing.T) {
	for _, n := range []int{0, 1, 2, mostItems - 1, mostItems, mostItems + 1, mostItems + 2, 2 * mostItems, 10 * mostItems, 100000} {
		for _, place := range placesAround {
			for _, takes := range takesAround {
				if got := impl.ItemsValid(sameItems(item(place, takes), n)); got != (n <= mostItems) {
					t.Errorf("ItemsValid of %d items is %v", n, got)
				}
			}
		}
	}
}

// Promise 70.
func TestItemsValidOfInvalidLists(t *testing.T) {
	for _, list := range invalidLists() {
		if impl.ItemsValid(list) {
			t.Errorf("ItemsValid(%v) is true", list)
		}
	}
}

// Promise 70, for all parts of valid items, also without any.
func TestPartsOfItemsAreValid(t *testing.T) {
	for _, list := range [][]impl.Item{fullList(), itemList(-10, 5, -11, 1, -40, 2), sameItems(item(greatest, longestTake), mostItems)} {
		eachPart(list, func(part []impl.Item) {
			if !impl.ItemsValid(part) {
				t.Errorf("the part %v of valid items is not valid", part)
			}
		})
	}
}

// Promise 70, for an item that takes no time at every place in and beside the
// others.
func TestItemsThatTakeNoTimeAreInvalid(t *testing.T) {
	for n := range mostItems {
		for k := range n + 1 {
			for _, place := range placesAround {
				if list := slices.Insert(fullList()[:n], k, item(place, 0)); impl.ItemsValid(list) {
					t.Errorf("ItemsValid(%v) is true", list)
				}
			}
		}
	}
}
