package impl

import "slices"

// MaxFloors is the maximum number of floors of a building, and MaxStep the greatest height.
const (
	MaxFloors = 8
	MaxStep   = 60
)

// FloorsValid reports whether there are 1..MaxFloors heights, which ascend, the first one 0 and the last one at most MaxStep.
func FloorsValid(floors []int) bool {
	if len(floors) < 1 || len(floors) > MaxFloors || floors[0] != 0 {
		return false
	}
	for i := 1; i < len(floors); i++ {
		if floors[i] <= floors[i-1] {
			return false
		}
	}
	return floors[len(floors)-1] <= MaxStep
}

// FloorAt returns the floor of valid floors (FloorsValid) whose height a position is; -1 if there is none, and for other floors.
func FloorAt(floors []int, at int) int {
	if !FloorsValid(floors) {
		return -1
	}
	return slices.Index(floors, at)
}

// FloorBelow returns the highest of valid floors whose height is not greater than a position in 0..MaxStep; -1 for other arguments.
func FloorBelow(floors []int, at int) int {
	if !FloorsValid(floors) || !isStep(at) {
		return -1
	}
	below := 0
	for floor, height := range floors {
		if height <= at {
			below = floor
		}
	}
	return below
}

// FloorNear returns the one of valid floors whose height differs least from a position in 0..MaxStep, the lower one of two; -1 for other arguments.
func FloorNear(floors []int, at int) int {
	below := FloorBelow(floors, at)
	if below < 0 || below == len(floors)-1 {
		return below
	}
	above := below + 1
	if at-floors[below] <= floors[above]-at {
		return below
	}
	return above
}

// FloorWay returns how many steps there are between two of valid floors; -1 if one of them is none, and for other floors.
func FloorWay(floors []int, a int, b int) int {
	if !FloorsValid(floors) || !isFloor(floors, a) || !isFloor(floors, b) {
		return -1
	}
	return max(floors[a], floors[b]) - min(floors[a], floors[b])
}

func isStep(at int) bool {
	return at >= 0 && at <= MaxStep
}

func isFloor(floors []int, floor int) bool {
	return floor >= 0 && floor < len(floors)
}
