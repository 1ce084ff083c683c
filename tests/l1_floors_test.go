package tests

import (
	"math"
	"slices"
	"testing"

	"loop.example/elevators/impl"
)

// someFloors returns every building of up to four floors with heights on a coarse grid, which has gaps that are even, odd and 1, and some of up to MaxFloors floors.
func someFloors() [][]int {
	list := [][]int{
		{0},
		{0, 1, 2, 3, 4, 5, 6, 7},
		{0, 53, 54, 55, 56, 57, 58, 60},
		{0, 4, 9, 15, 16, 30, 45, 60},
		{0, 2, 5, 9, 14, 20, 27},
		{0, 10, 20, 30, 40, 50},
	}
	grid := []int{1, 2, 3, 4, 7, 12, 13, 29, 30, 31, 58, 59, 60}
	for i, a := range grid {
		list = append(list, []int{0, a})
		for j := i + 1; j < len(grid); j++ {
			list = append(list, []int{0, a, grid[j]})
			for _, c := range grid[j+1:] {
				list = append(list, []int{0, a, grid[j], c})
			}
		}
	}
	return list
}

// badFloors returns lists that are no valid floors, each for a reason of its own.
func badFloors() map[string][]int {
	return map[string][]int{
		"nil":              nil,
		"empty":            {},
		"first above 0":    {1},
		"first below 0":    {-1},
		"no ground":        {4, 9},
		"below the ground": {-4, 0, 4},
		"two alike":        {0, 0},
		"two alike at top": {0, 4, 9, 9},
		"descending":       {0, 9, 4},
		"dip in between":   {0, 4, 3, 9},
		"too high":         {0, 61},
		"highest number":   {0, math.MaxInt},
		"lowest number":    {0, math.MinInt},
		"too high between": {0, 61, 60},
		"nine":             {0, 1, 2, 3, 4, 5, 6, 7, 8},
		"ten":              {0, 1, 2, 3, 4, 5, 6, 7, 8, 9},
	}
}

// beyond holds positions that are none, on both sides.
var beyond = []int{math.MinInt, -61, -1, 61, 62, math.MaxInt}

func distance(a, b int) int {
	if a < b {
		return b - a
	}
	return a - b
}

func TestFloorsValid(t *testing.T) {
	for _, floors := range someFloors() {
		if !impl.FloorsValid(floors) {
			t.Fatalf("%v are not valid", floors)
		}
	}
	for why, floors := range badFloors() {
		if impl.FloorsValid(floors) {
			t.Errorf("%s: %v are valid", why, floors)
		}
	}
}

func TestP48BuildingsMayBeLower(t *testing.T) {
	for _, floors := range someFloors() {
		if impl.FloorsValid(floors[1:]) {
			t.Fatalf("%v are valid without the first floor", floors)
		}
		lower := floors[:len(floors)-1]
		if impl.FloorsValid(lower) != (len(floors) > 1) {
			t.Fatalf("%v without the last floor: %v", floors, impl.FloorsValid(lower))
		}
	}
}

func TestP49EveryFloorIsAtItsHeight(t *testing.T) {
	for _, floors := range someFloors() {
		for floor, height := range floors {
			if got := impl.FloorAt(floors, height); got != floor {
				t.Fatalf("FloorAt(%v, %d) = %d", floors, height, got)
			}
		}
		for at := -2; at <= impl.MaxStep+2; at++ {
			got := impl.FloorAt(floors, at)
			if got == -1 && slices.Contains(floors, at) || got != -1 && floors[got] != at {
				t.Fatalf("FloorAt(%v, %d) = %d", floors, at, got)
			}
		}
		for _, at := range beyond {
			if got := impl.FloorAt(floors, at); got != -1 {
				t.Fatalf("FloorAt(%v, %d) = %d", floors, at, got)
			}
		}
	}
}

func TestP50TheNextFloorIsHigher(t *testing.T) {
	for _, floors := range someFloors() {
		for at := 0; at <= impl.MaxStep; at++ {
			got := impl.FloorBelow(floors, at)
			if got < 0 || got >= len(floors) || floors[got] > at {
				t.Fatalf("FloorBelow(%v, %d) = %d", floors, at, got)
			}
			if got+1 < len(floors) && floors[got+1] <= at {
				t.Fatalf("FloorBelow(%v, %d) = %d, but the next one is not higher", floors, at, got)
			}
			if here := slices.Index(floors, at); here >= 0 && got != here {
				t.Fatalf("FloorBelow(%v, %d) = %d at a floor", floors, at, got)
			}
		}
		for _, at := range beyond {
			if got := impl.FloorBelow(floors, at); got != -1 {
				t.Fatalf("FloorBelow(%v, %d) = %d", floors, at, got)
			}
		}
	}
}

func TestP51NoFloorIsNearer(t *testing.T) {
	for _, floors := range someFloors() {
		for at := 0; at <= impl.MaxStep; at++ {
			got := impl.FloorNear(floors, at)
			if got < 0 || got >= len(floors) {
				t.Fatalf("FloorNear(%v, %d) = %d", floors, at, got)
			}
			for floor, height := range floors {
				way, least := distance(height, at), distance(floors[got], at)
				if way < least || floor < got && way == least {
					t.Fatalf("FloorNear(%v, %d) = %d, but %d is better", floors, at, got, floor)
				}
			}
			if below := impl.FloorBelow(floors, at); got != below && got != below+1 {
				t.Fatalf("FloorNear(%v, %d) = %d, with %d below", floors, at, got, below)
			}
		}
		for _, at := range beyond {
			if got := impl.FloorNear(floors, at); got != -1 {
				t.Fatalf("FloorNear(%v, %d) = %d", floors, at, got)
			}
		}
	}
}

func TestP52WaysAddUp(t *testing.T) {
	for _, floors := range someFloors() {
		for a := range floors {
			for b := range floors {
				way := impl.FloorWay(floors, a, b)
				if way != distance(floors[a], floors[b]) || way != impl.FloorWay(floors, b, a) {
					t.Fatalf("FloorWay(%v, %d, %d) = %d", floors, a, b, way)
				}
				for c := min(a, b); c <= max(a, b); c++ {
					if sum := impl.FloorWay(floors, a, c) + impl.FloorWay(floors, c, b); sum != way {
						t.Fatalf("from %d to %d of %v over %d: %d, not %d", a, b, floors, c, sum, way)
					}
				}
			}
		}
	}
}

func TestFloorWayToNoFloor(t *testing.T) {
	for _, floors := range someFloors() {
		for _, none := range []int{math.MinInt, -1, len(floors), impl.MaxFloors, impl.MaxStep, math.MaxInt} {
			pairs := [][2]int{{none, 0}, {0, none}, {none, none}, {none, len(floors) - 1}, {len(floors) - 1, none}}
			for _, p := range pairs {
				if got := impl.FloorWay(floors, p[0], p[1]); got != -1 {
					t.Fatalf("FloorWay(%v, %d, %d) = %d", floors, p[0], p[1], got)
				}
			}
		}
	}
}

func TestPositionsBetweenFloors(t *testing.T) {
	floors := []int{0, 4, 9}
	tests := []struct{ at, same, below, near int }{
		{-1, -1, -1, -1}, {0, 0, 0, 0}, {1, -1, 0, 0}, {2, -1, 0, 0}, {3, -1, 0, 1}, {4, 1, 1, 1}, {5, -1, 1, 1}, {6, -1, 1, 1},
		{7, -1, 1, 2}, {8, -1, 1, 2}, {9, 2, 2, 2}, {10, -1, 2, 2}, {60, -1, 2, 2}, {61, -1, -1, -1},
	}
	for _, x := range tests {
		same, below, near := impl.FloorAt(floors, x.at), impl.FloorBelow(floors, x.at), impl.FloorNear(floors, x.at)
		if same != x.same || below != x.below || near != x.near {
			t.Errorf("at %d: FloorAt %d, FloorBelow %d, FloorNear %d, not %v", x.at, same, below, near, x)
		}
	}
}

func TestBuildingOfOneFloor(t *testing.T) {
	floors := []int{0}
	if !impl.FloorsValid(floors) || impl.FloorWay(floors, 0, 0) != 0 || impl.FloorWay(floors, 0, 1) != -1 {
		t.Error("one floor is a building, with no way in it")
	}
	for at := 0; at <= impl.MaxStep; at++ {
		if impl.FloorBelow(floors, at) != 0 || impl.FloorNear(floors, at) != 0 {
			t.Errorf("the only floor is neither below nor near at %d", at)
		}
		if (impl.FloorAt(floors, at) == 0) != (at == 0) {
			t.Errorf("FloorAt at %d: %d", at, impl.FloorAt(floors, at))
		}
	}
}

func TestFloorsThatAreNotValid(t *testing.T) {
	for why, floors := range badFloors() {
		positions := append([]int{0, 1, 4, 9, 30, impl.MaxStep}, beyond...)
		for _, at := range append(positions, floors...) {
			if impl.FloorAt(floors, at) != -1 || impl.FloorBelow(floors, at) != -1 || impl.FloorNear(floors, at) != -1 {
				t.Errorf("%s: a floor is found at %d", why, at)
			}
		}
		for a := -1; a <= len(floors); a++ {
			for b := -1; b <= len(floors); b++ {
				if got := impl.FloorWay(floors, a, b); got != -1 {
					t.Errorf("%s: FloorWay(%d, %d) = %d", why, a, b, got)
				}
			}
		}
	}
}

func TestFloorsAreNotWrittenTo(t *testing.T) {
	lists := someFloors()
	for _, floors := range badFloors() {
		lists = append(lists, floors)
	}
	for _, floors := range lists {
		// Behind the end there is spare room, which is not to be written to either.
		whole := append(slices.Clone(floors), 77, 78)
		before := slices.Clone(whole)
		given := whole[:len(floors)]
		impl.FloorsValid(given)
		for at := -1; at <= impl.MaxStep+1; at++ {
			impl.FloorAt(given, at)
			impl.FloorBelow(given, at)
			impl.FloorNear(given, at)
			impl.FloorWay(given, at, 0)
			impl.FloorWay(given, len(floors)-1, at)
		}
		if !slices.Equal(whole, before) {
			t.Fatalf("%v became %v", before, whole)
		}
	}
}
