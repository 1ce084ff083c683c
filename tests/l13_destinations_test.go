package tests

import (
	"math"
	"slices"
	"testing"

	"loop.example/elevators/impl"
)

// badGoals holds numbers that are no floors to go to.
var badGoals = []int{math.MinInt, math.MinInt + 1, -8, -1, 8, 9, 60, math.MaxInt - 1, math.MaxInt}

// badRooms holds numbers that are no rooms of a car.
var badRooms = []int{math.MinInt, math.MinInt + 1, -8, -1, 9, 10, 60, math.MaxInt - 1, math.MaxInt}

// roomsOf returns all rooms of one, two and three cars, out of some.
func roomsOf(some []int) [][]int {
	return slices.Concat(listsOf(1, some), listsOf(2, some), listsOf(3, some))
}

// goalsOf returns the goals of so many riders: all lists of three floors for up to three riders, and some lists for more, in which many or few go to the same floor.
func goalsOf(riders int) [][]int {
	if riders <= 3 {
		return listsOf(riders, []int{0, 3, 7})
	}
	list := [][]int{slices.Repeat([]int{7}, riders), slices.Repeat([]int{0}, riders), everyNumber(riders)}
	for turn := range 6 {
		list = append(list, mixedFloors(everyNumber(impl.MaxFloors), riders, turn), mixedFloors(everyNumber(3), riders, turn))
	}
	return list
}

// everyHall calls f for halls of all numbers of riders and cars, with rooms that are too small, just enough, and greater.
func everyHall(f func(goals, rooms []int)) {
	for riders := range impl.MaxHall + 1 {
		for _, goals := range goalsOf(riders) {
			for _, rooms := range roomsOf([]int{0, 1, 2, 3, 6}) {
				f(goals, rooms)
			}
			for _, rooms := range roomsOf([]int{0, 4, 8}) {
				f(goals, rooms)
			}
		}
	}
}

// everyPut calls f for all halls and all lists that tell a car for each rider, whether they fit or not.
func everyPut(f func(goals, rooms, put []int)) {
	everyHall(func(goals, rooms []int) {
		for _, put := range listsOf(len(goals), everyNumber(len(rooms))) {
			f(goals, rooms, put)
		}
	})
}

// everyFit calls f for all halls and all lists that fit.
func everyFit(f func(goals, rooms, put []int)) {
	everyPut(func(goals, rooms, put []int) {
		if wantFits(rooms, put) {
			f(goals, rooms, put)
		}
	})
}

// wantFits counts for each car how many riders it has.
func wantFits(rooms, put []int) bool {
	for car, room := range rooms {
		riders := 0
		for _, into := range put {
			if into == car {
				riders++
			}
		}
		if riders > room {
			return false
		}
	}
	return true
}

// wantStops looks in each car, floor by floor, for a rider who goes there.
func wantStops(goals, rooms, put []int) int {
	stops := 0
	for car := range rooms {
		for floor := range impl.MaxFloors {
			for i, goal := range goals {
				if put[i] == car && goal == floor {
					stops++
					break
				}
			}
		}
	}
	return stops
}

// wantPut looks through all lists that fit, from the last one on, and returns the least one of those with the fewest stops.
func wantPut(goals, rooms []int) ([]int, bool) {
	var best []int
	fewest := math.MaxInt
	lists := listsOf(len(goals), everyNumber(len(rooms)))
	slices.Reverse(lists)
	for _, put := range lists {
		if !wantFits(rooms, put) {
			continue
		}
		stops := wantStops(goals, rooms, put)
		if stops < fewest || stops == fewest && slices.Compare(put, best) < 0 {
			best, fewest = put, stops
		}
	}
	return best, fewest < math.MaxInt
}

// hallsByHand holds halls with all that the document names, and how their riders are put; stops is -1 if they cannot be.
var hallsByHand = []struct {
	why   string
	goals []int
	rooms []int
	best  []int
	stops int
	many  int
}{
	{"no riders", nil, []int{3}, nil, 0, 0},
	{"no riders, three cars", []int{}, []int{8, 0, 1}, nil, 0, 0},
	{"no riders, cars without room", nil, []int{0, 0, 0}, nil, 0, 0},
	{"one rider, one car", []int{5}, []int{1}, []int{0}, 1, 1},
	{"one car with room for all", []int{5, 2, 5}, []int{4}, []int{0, 0, 0}, 2, 2},
	{"one car with just so much room", []int{5, 2, 5}, []int{3}, []int{0, 0, 0}, 2, 2},
	{"one car, one rider too many", []int{5, 2, 5}, []int{2}, nil, -1, 2},
	{"one car without room", []int{5}, []int{0}, nil, -1, 1},
	{"three cars without room", []int{5, 4}, []int{0, 0, 0}, nil, -1, 2},
	{"the first car without room", []int{5, 2}, []int{0, 2}, []int{1, 1}, 2, 2},
	{"only the last car with room", []int{5, 2}, []int{0, 0, 2}, []int{2, 2}, 2, 2},
	{"the car in between without room", []int{5, 2, 5}, []int{1, 0, 2}, []int{2, 0, 2}, 2, 2},
	{"more riders than room, to one floor", []int{1, 1, 1, 1}, []int{1, 1, 1}, nil, -1, 1},
	{"more riders than room, in no single car", []int{3, 5, 3, 5}, []int{2, 1}, nil, -1, 2},
	{"MaxHall riders, one too many", []int{0, 1, 2, 3, 4, 5}, []int{1, 4, 0}, nil, -1, 6},
	{"exactly as many riders as room, to one floor", []int{1, 1, 1, 1}, []int{1, 2, 1}, []int{0, 1, 1, 2}, 3, 1},
	{"exactly as many riders as room, one of them alone", []int{3, 5, 3, 5}, []int{3, 1}, []int{0, 0, 0, 1}, 3, 2},
	{"the first car has room for all", []int{4, 0, 7}, []int{3, 3}, []int{0, 0, 0}, 3, 3},
	{"the last car has room for all", []int{4, 0, 4, 7}, []int{1, 1, 4}, []int{2, 0, 2, 1}, 3, 3},
	{"the last car has room for all, who go to one floor", []int{7, 7, 7, 7, 7, 7}, []int{2, 2, 8}, []int{2, 2, 2, 2, 2, 2}, 1, 1},
	{"riders to one floor in both cars", []int{3, 3, 3}, []int{2, 2}, []int{0, 0, 1}, 2, 1},
	{"riders to one floor in all cars", []int{7, 7, 7, 7, 7, 7}, []int{2, 2, 2}, []int{0, 0, 1, 1, 2, 2}, 3, 1},
	{"riders to one floor, no car has room for all", []int{7, 7, 7, 7, 7, 7}, []int{5, 0, 5}, []int{0, 0, 0, 0, 0, 2}, 2, 1},
	{"two floors, a car for each", []int{3, 5, 3, 5}, []int{2, 2}, []int{0, 1, 0, 1}, 2, 2},
	{"several lists with the same stops, one rider a car", []int{1, 2}, []int{1, 1}, []int{0, 1}, 2, 2},
	{"several lists with the same stops, all floors differ", []int{1, 2, 3}, []int{2, 2}, []int{0, 0, 1}, 3, 3},
	{"several lists with the same stops, side by side", []int{6, 6, 2, 2}, []int{2, 2, 2}, []int{0, 0, 1, 1}, 2, 2},
	{"several lists with the same stops, one in the other", []int{2, 6, 6, 2}, []int{2, 2, 2}, []int{0, 1, 1, 0}, 2, 2},
	{"cars that get no riders", []int{6, 6, 2}, []int{3, 3, 3}, []int{0, 0, 0}, 2, 2},
	{"only the second one of three cars gets riders", []int{6, 6, 6}, []int{2, 3, 3}, []int{1, 1, 1}, 1, 1},
	{"the lesser car would stop once more", []int{2, 1, 2}, []int{1, 2}, []int{1, 0, 1}, 2, 2},
	{"three cars, a floor for each", []int{1, 2, 3, 1, 2, 3}, []int{2, 2, 2}, []int{0, 1, 2, 0, 1, 2}, 3, 3},
	{"three cars, one rider apart", []int{1, 2, 3, 1, 2, 3}, []int{1, 3, 2}, []int{0, 1, 2, 1, 1, 2}, 4, 3},
	{"three cars, all floors differ", []int{0, 1, 2, 3, 4, 5}, []int{2, 2, 2}, []int{0, 0, 1, 1, 2, 2}, 6, 6},
	{"MaxHall riders, MaxInside rooms", []int{0, 7, 0, 7, 0, 7}, []int{8, 8, 8}, []int{0, 0, 0, 0, 0, 0}, 2, 2},
	{"MaxHall riders to the ends, a car for each", []int{0, 7, 0, 7, 0, 7}, []int{3, 3}, []int{0, 1, 0, 1, 0, 1}, 2, 2},
	{"MaxHall riders to different floors, one car", []int{0, 1, 2, 3, 4, 7}, []int{8}, []int{0, 0, 0, 0, 0, 0}, 6, 6},
	{"the highest floor and the lowest one", []int{7, 0}, []int{1, 1, 1}, []int{0, 1}, 2, 2},
}

func TestHallConstants(t *testing.T) {
	if impl.MaxHall != 6 {
		t.Errorf("MaxHall = %d", impl.MaxHall)
	}
}

func TestHallsByHand(t *testing.T) {
	for _, c := range hallsByHand {
		if !impl.HallOk(c.goals, c.rooms) {
			t.Errorf("%s: it is no hall", c.why)
		}
		if many := impl.GoalMany(c.goals, c.rooms); many != c.many {
			t.Errorf("%s: GoalMany(%v, %v) = %d, not %d", c.why, c.goals, c.rooms, many, c.many)
		}
		best, ok := impl.HallBest(c.goals, c.rooms)
		if ok != (c.stops >= 0) || !slices.Equal(best, c.best) {
			t.Errorf("%s: HallBest(%v, %v) = %v, %v, not %v", c.why, c.goals, c.rooms, best, ok, c.best)
		}
		if fits := impl.HallFits(c.goals, c.rooms, c.best); fits != ok {
			t.Errorf("%s: HallFits(%v, %v, %v) = %v", c.why, c.goals, c.rooms, c.best, fits)
		}
		if stops := impl.HallStops(c.goals, c.rooms, c.best); stops != c.stops {
			t.Errorf("%s: HallStops(%v, %v, %v) = %d, not %d", c.why, c.goals, c.rooms, c.best, stops, c.stops)
		}
	}
}

func TestRidersPutByHand(t *testing.T) {
	for _, c := range []struct {
		goals, rooms, put []int
		stops             int
	}{
		{nil, []int{0}, nil, 0},
		{nil, []int{8, 8, 8}, []int{}, 0},
		{[]int{0}, []int{1}, []int{0}, 1},
		{[]int{7}, []int{0, 0, 1}, []int{2}, 1},
		{[]int{7}, []int{0, 0, 1}, []int{1}, -1},
		{[]int{7}, []int{0, 0, 1}, []int{0}, -1},
		{[]int{3, 5, 3, 5}, []int{2, 2}, []int{0, 1, 0, 1}, 2},
		{[]int{3, 5, 3, 5}, []int{2, 2}, []int{1, 0, 1, 0}, 2},
		{[]int{3, 5, 3, 5}, []int{2, 2}, []int{0, 0, 1, 1}, 4},
		{[]int{3, 5, 3, 5}, []int{2, 2}, []int{0, 0, 0, 1}, -1},
		{[]int{3, 5, 3, 5}, []int{2, 2}, []int{1, 0, 1, 1}, -1},
		{[]int{3, 5, 3, 5}, []int{3, 2}, []int{0, 0, 0, 1}, 3},
		{[]int{3, 5, 3, 5}, []int{4, 0}, []int{0, 0, 0, 0}, 2},
		{[]int{3, 5, 3, 5}, []int{3, 8}, []int{0, 0, 0, 0}, -1},
		{[]int{6, 6, 6}, []int{1, 1, 1}, []int{2, 0, 1}, 3},
		{[]int{6, 6, 6}, []int{1, 2, 1}, []int{2, 1, 1}, 2},
		{[]int{6, 6, 6}, []int{1, 3, 1}, []int{1, 1, 1}, 1},
		{[]int{0, 7, 0, 7, 0, 7}, []int{8, 8, 8}, []int{0, 1, 2, 0, 1, 2}, 6},
		{[]int{0, 7, 0, 7, 0, 7}, []int{8, 8, 8}, []int{2, 1, 2, 1, 0, 1}, 3},
		{[]int{0, 7, 0, 7, 0, 7}, []int{8, 8, 8}, []int{2, 2, 2, 2, 2, 2}, 2},
		{[]int{0, 1, 2, 3, 4, 7}, []int{6}, []int{0, 0, 0, 0, 0, 0}, 6},
		{[]int{0, 1, 2, 3, 4, 7}, []int{5}, []int{0, 0, 0, 0, 0, 0}, -1},
	} {
		if got := impl.HallFits(c.goals, c.rooms, c.put); got != (c.stops >= 0) {
			t.Errorf("HallFits(%v, %v, %v) = %v", c.goals, c.rooms, c.put, got)
		}
		if got := impl.HallStops(c.goals, c.rooms, c.put); got != c.stops {
			t.Errorf("HallStops(%v, %v, %v) = %d, not %d", c.goals, c.rooms, c.put, got, c.stops)
		}
	}
}

func TestHallsAreRidersAndCars(t *testing.T) {
	someGoals, someRooms := []int{-1, 0, 7, 8}, []int{-1, 0, 8, 9}
	for riders := range 9 {
		for cars := range 6 {
			good := slices.Contains([]int{1, 2, 3}, cars) && riders < 7
			for _, goals := range [][]int{make([]int, riders), slices.Repeat([]int{7}, riders)} {
				for _, rooms := range [][]int{make([]int, cars), slices.Repeat([]int{8}, cars)} {
					if got := impl.HallOk(goals, rooms); got != good {
						t.Fatalf("HallOk(%v, %v) = %v", goals, rooms, got)
					}
				}
			}
		}
	}
	for riders := range 4 {
		for _, goals := range listsOf(riders, someGoals) {
			for _, rooms := range roomsOf(someRooms) {
				want := !slices.Contains(goals, -1) && !slices.Contains(goals, 8) && !slices.Contains(rooms, -1) && !slices.Contains(rooms, 9)
				if got := impl.HallOk(goals, rooms); got != want {
					t.Fatalf("HallOk(%v, %v) = %v", goals, rooms, got)
				}
			}
		}
	}
}

func TestHallFitsIsThatOfTheDocument(t *testing.T) {
	everyPut(func(goals, rooms, put []int) {
		if got, want := impl.HallFits(goals, rooms, put), wantFits(rooms, put); got != want {
			t.Fatalf("HallFits(%v, %v, %v) = %v, not %v", goals, rooms, put, got, want)
		}
	})
}

func TestHallStopsIsThatOfTheDocument(t *testing.T) {
	everyPut(func(goals, rooms, put []int) {
		want := -1
		if wantFits(rooms, put) {
			want = wantStops(goals, rooms, put)
		}
		if got := impl.HallStops(goals, rooms, put); got != want {
			t.Fatalf("HallStops(%v, %v, %v) = %d, not %d", goals, rooms, put, got, want)
		}
	})
}

func TestHallBestIsThatOfTheDocument(t *testing.T) {
	everyHall(func(goals, rooms []int) {
		got, ok := impl.HallBest(goals, rooms)
		if want, can := wantPut(goals, rooms); ok != can || !slices.Equal(got, want) {
			t.Fatalf("HallBest(%v, %v) = %v, %v, not %v, %v", goals, rooms, got, ok, want, can)
		}
	})
}

func TestGoalManyIsThatOfTheDocument(t *testing.T) {
	everyHall(func(goals, rooms []int) {
		want := 0
		for floor := range impl.MaxFloors {
			if slices.Contains(goals, floor) {
				want++
			}
		}
		if got := impl.GoalMany(goals, rooms); got != want {
			t.Fatalf("GoalMany(%v, %v) = %d, not %d", goals, rooms, got, want)
		}
	})
}

func TestP19NoWayToPutRidersHasFewerStops(t *testing.T) {
	everyHall(func(goals, rooms []int) {
		best, ok := impl.HallBest(goals, rooms)
		fewest := impl.HallStops(goals, rooms, best)
		if ok && fewest < 0 {
			t.Fatalf("HallBest(%v, %v) = %v, which does not fit", goals, rooms, best)
		}
		for _, put := range listsOf(len(goals), everyNumber(len(rooms))) {
			if !impl.HallFits(goals, rooms, put) {
				continue
			}
			if stops := impl.HallStops(goals, rooms, put); !ok || stops < fewest {
				t.Fatalf("HallBest(%v, %v) = %v, %v with %d stops, but %v has %d", goals, rooms, best, ok, fewest, put, stops)
			}
		}
	})
}

func TestP19ThereAreStopsForAllFloorsButNotMoreThanRiders(t *testing.T) {
	everyFit(func(goals, rooms, put []int) {
		stops, many := impl.HallStops(goals, rooms, put), impl.GoalMany(goals, rooms)
		if many < 0 || stops < many || stops > len(goals) {
			t.Fatalf("HallStops(%v, %v, %v) = %d for %d floors", goals, rooms, put, stops, many)
		}
	})
}

func TestP85WithoutRidersItIsAHall(t *testing.T) {
	everyHall(func(goals, rooms []int) {
		if !impl.HallOk(goals, rooms) || !impl.HallOk(nil, rooms) || !impl.HallOk([]int{}, rooms) {
			t.Fatalf("rooms %v are no hall with or without the riders %v", rooms, goals)
		}
		if best, ok := impl.HallBest(nil, rooms); len(best) != 0 || !ok {
			t.Fatalf("HallBest(nil, %v) = %v, %v", rooms, best, ok)
		}
		if !impl.HallFits(nil, rooms, nil) || impl.HallStops(nil, rooms, nil) != 0 || impl.GoalMany(nil, rooms) != 0 {
			t.Fatalf("rooms %v without riders", rooms)
		}
	})
}

func TestP85WithoutCarsItIsNoHall(t *testing.T) {
	everyHall(func(goals, _ []int) {
		hallRefused(t, goals, nil)
		hallRefused(t, goals, []int{})
	})
}

func TestP86NoCarIsTooFull(t *testing.T) {
	fitting := 0
	everyPut(func(goals, rooms, put []int) {
		if !impl.HallFits(goals, rooms, put) {
			return
		}
		fitting++
		if len(goals) > sumOf(rooms) {
			t.Fatalf("HallFits(%v, %v, %v)", goals, rooms, put)
		}
		for car, room := range rooms {
			others := slices.DeleteFunc(slices.Clone(put), func(into int) bool { return into == car })
			if len(put)-len(others) > room {
				t.Fatalf("HallFits(%v, %v, %v), but the car %d is too full", goals, rooms, put, car)
			}
		}
	})
	if fitting == 0 {
		t.Fatal("no list fits")
	}
}

func TestP86WithoutTheLastRiderTheOthersFit(t *testing.T) {
	everyFit(func(goals, rooms, put []int) {
		for last := range len(goals) + 1 {
			if !impl.HallFits(goals[:last], rooms, put[:last]) {
				t.Fatalf("HallFits(%v, %v, %v) = false", goals[:last], rooms, put[:last])
			}
		}
	})
}

func TestP87IfThereIsRoomEverybodyIsPut(t *testing.T) {
	everyHall(func(goals, rooms []int) {
		best, ok := impl.HallBest(goals, rooms)
		if ok != (len(goals) <= sumOf(rooms)) {
			t.Fatalf("HallBest(%v, %v) = %v, %v", goals, rooms, best, ok)
		}
		if fits := impl.HallFits(goals, rooms, best); ok && !fits {
			t.Fatalf("HallBest(%v, %v) = %v, which does not fit", goals, rooms, best)
		}
		if !ok && len(best) != 0 {
			t.Fatalf("HallBest(%v, %v) = %v beside false", goals, rooms, best)
		}
	})
}

func TestP87IfOneCarHasRoomForAllNoFloorIsDoubled(t *testing.T) {
	everyHall(func(goals, rooms []int) {
		if slices.Max(rooms) < len(goals) {
			return
		}
		best, _ := impl.HallBest(goals, rooms)
		if stops, many := impl.HallStops(goals, rooms, best), impl.GoalMany(goals, rooms); stops != many || many < 0 {
			t.Fatalf("HallBest(%v, %v) = %v with %d stops for %d floors", goals, rooms, best, stops, many)
		}
	})
}

func TestP88FloorsAreCountedOnce(t *testing.T) {
	everyHall(func(goals, rooms []int) {
		many := impl.GoalMany(goals, rooms)
		if many < 0 {
			t.Fatalf("GoalMany(%v, %v) = %d", goals, rooms, many)
		}
		if 2*len(goals) > impl.MaxHall {
			return
		}
		for _, twice := range [][]int{slices.Repeat(goals, 2), slices.Concat(goals, turnedRound(goals))} {
			if got := impl.GoalMany(twice, rooms); got != many {
				t.Fatalf("GoalMany(%v, %v) = %d, not %d", twice, rooms, got, many)
			}
		}
	})
}

func TestP88OneRiderMoreGoesToOneFloorMoreAtMost(t *testing.T) {
	everyHall(func(goals, rooms []int) {
		if len(goals) == impl.MaxHall {
			return
		}
		many := impl.GoalMany(goals, rooms)
		for floor := range impl.MaxFloors {
			more := append(slices.Clone(goals), floor)
			if got := impl.GoalMany(more, rooms); got < many || got > many+1 || got == many && !slices.Contains(goals, floor) {
				t.Fatalf("GoalMany is %d for %v, but %d for %v", many, goals, got, more)
			}
		}
	})
}

// hallRefused checks that riders and cars are no hall, whatever list is there for the riders.
func hallRefused(t *testing.T, goals, rooms []int) {
	t.Helper()
	if impl.HallOk(goals, rooms) {
		t.Fatalf("HallOk(%v, %v)", goals, rooms)
	}
	if best, ok := impl.HallBest(goals, rooms); len(best) != 0 || ok {
		t.Fatalf("HallBest(%v, %v) = %v, %v", goals, rooms, best, ok)
	}
	if many := impl.GoalMany(goals, rooms); many != -1 {
		t.Fatalf("GoalMany(%v, %v) = %d", goals, rooms, many)
	}
	for riders := range impl.MaxHall + 3 {
		putRefused(t, goals, rooms, make([]int, riders))
	}
	for car := range len(rooms) + 1 {
		putRefused(t, goals, rooms, slices.Repeat([]int{car}, len(goals)))
	}
}

// putRefused checks that a list does not tell a car for each rider of a hall, or one of the cars for too many.
func putRefused(t *testing.T, goals, rooms, put []int) {
	t.Helper()
	if impl.HallFits(goals, rooms, put) {
		t.Fatalf("HallFits(%v, %v, %v)", goals, rooms, put)
	}
	if stops := impl.HallStops(goals, rooms, put); stops != -1 {
		t.Fatalf("HallStops(%v, %v, %v) = %d", goals, rooms, put, stops)
	}
}

func TestHallsWithTooManyRiders(t *testing.T) {
	for _, riders := range []int{7, 8, 9, 24, 100} {
		for _, rooms := range roomsOf([]int{0, 1, 7, 8}) {
			hallRefused(t, make([]int, riders), rooms)
			hallRefused(t, slices.Repeat([]int{7}, riders), rooms)
			hallRefused(t, mixedFloors(everyNumber(impl.MaxFloors), riders, 5), rooms)
		}
	}
}

func TestHallsWithTooManyOrTooFewCars(t *testing.T) {
	for riders := range impl.MaxHall + 1 {
		for _, goals := range goalsOf(riders) {
			for _, cars := range []int{0, 4, 5, 6, 8, 100} {
				for _, room := range []int{0, 1, 2, 8} {
					hallRefused(t, goals, slices.Repeat([]int{room}, cars))
				}
			}
		}
	}
}

func TestHallsWithGoalsThatAreNoFloors(t *testing.T) {
	for _, none := range badGoals {
		for riders := range impl.MaxHall {
			for place := range riders + 1 {
				for _, rooms := range roomsOf([]int{0, 1, 8}) {
					hallRefused(t, slices.Insert(slices.Repeat([]int{7}, riders), place, none), rooms)
					hallRefused(t, slices.Insert(everyNumber(riders), place, none), rooms)
				}
			}
		}
	}
}

func TestHallsWithRoomsThatAreNone(t *testing.T) {
	for _, none := range badRooms {
		for others := range 3 {
			for place := range others + 1 {
				for _, room := range []int{0, 1, 6, 8} {
					rooms := slices.Insert(slices.Repeat([]int{room}, others), place, none)
					for riders := range impl.MaxHall + 1 {
						hallRefused(t, everyNumber(riders), rooms)
						hallRefused(t, make([]int, riders), rooms)
					}
				}
			}
		}
	}
}

func TestListsForTooFewOrTooManyRiders(t *testing.T) {
	everyHall(func(goals, rooms []int) {
		for many := range impl.MaxHall + 3 {
			if many != len(goals) {
				putRefused(t, goals, rooms, make([]int, many))
				putRefused(t, goals, rooms, slices.Repeat([]int{len(rooms) - 1}, many))
			}
		}
		good, ok := wantPut(goals, rooms)
		if !ok {
			return
		}
		for car := range rooms {
			putRefused(t, goals, rooms, append(slices.Clone(good), car))
		}
		if len(good) > 0 {
			putRefused(t, goals, rooms, good[:len(good)-1])
			putRefused(t, goals, rooms, nil)
		}
	})
}

func TestListsWithACarThatIsNotInTheHall(t *testing.T) {
	everyHall(func(goals, rooms []int) {
		good, ok := wantPut(goals, rooms)
		if !ok {
			return
		}
		for _, none := range []int{math.MinInt, -2, -1, len(rooms), len(rooms) + 1, 3, 4, 8, math.MaxInt} {
			for place := range goals {
				put := slices.Clone(good)
				put[place] = none
				putRefused(t, goals, rooms, put)
			}
		}
	})
}

func TestListsWithACarThatIsTooFull(t *testing.T) {
	for riders := 1; riders <= impl.MaxHall; riders++ {
		for _, goals := range goalsOf(riders) {
			for cars := 1; cars <= 3; cars++ {
				for car := range cars {
					for room := range riders {
						rooms := slices.Repeat([]int{8}, cars)
						rooms[car] = room
						putRefused(t, goals, rooms, slices.Repeat([]int{car}, riders))
					}
				}
			}
		}
	}
}

func TestHallsWriteToNothing(t *testing.T) {
	check := func(lists ...[]int) {
		var wholes, given, before [][]int
		for _, list := range lists {
			whole, part := withSpareRoom(list)
			wholes, given, before = append(wholes, whole), append(given, part), append(before, slices.Clone(whole))
		}
		impl.HallOk(given[0], given[1])
		impl.HallFits(given[0], given[1], given[2])
		impl.HallStops(given[0], given[1], given[2])
		impl.HallBest(given[0], given[1])
		impl.GoalMany(given[0], given[1])
		for i, whole := range wholes {
			if !slices.Equal(whole, before[i]) {
				t.Fatalf("%v became %v", before[i], whole)
			}
		}
	}
	for _, goals := range [][]int{nil, {0}, {7, 3}, {5, 2, 5, 2, 1, 0}, {6, 5, 4, 3, 2, 1}, {3, -1}, {8, 1, 0}, {6, 5, 4, 3, 2, 1, 0}} {
		for _, rooms := range [][]int{nil, {0}, {8}, {2, 1}, {2, 2, 2}, {8, 7, 6}, {-1, 8}, {9, 1}, {4, 3, 2, 1}} {
			for _, put := range [][]int{nil, {0}, {1, 0}, {2, -1, 3}, {2, 1, 0, 2, 1, 0}} {
				check(goals, rooms, put)
			}
			check(goals, rooms, make([]int, len(goals)))
		}
	}
}

func TestPutRidersShareNoMemory(t *testing.T) {
	everyHall(func(goals, rooms []int) {
		goalsWhole, goalsGiven := withSpareRoom(goals)
		roomsWhole, roomsGiven := withSpareRoom(rooms)
		before := slices.Concat(goalsWhole, roomsWhole)
		first, _ := impl.HallBest(goalsGiven, roomsGiven)
		second, _ := impl.HallBest(goalsGiven, roomsGiven)
		want := slices.Clone(second)
		first = first[:cap(first)]
		for i := range first {
			first[i] = -7
		}
		if !slices.Equal(slices.Concat(goalsWhole, roomsWhole), before) {
			t.Fatalf("HallBest(%v, %v) shares memory with an argument", goals, rooms)
		}
		if third, _ := impl.HallBest(goalsGiven, roomsGiven); !slices.Equal(second, want) || !slices.Equal(third, want) {
			t.Fatalf("HallBest(%v, %v) shares memory with another result", goals, rooms)
		}
	})
}
