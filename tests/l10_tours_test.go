package tests

import (
	"math"
	"slices"
	"testing"

	"loop.example/elevators/impl"
)

// highBuildings holds buildings of MaxFloors floors: with even gaps, with uneven ones, with most floors near an end, and with floors side by side.
var highBuildings = [][]int{
	{0, 5, 10, 15, 20, 25, 30, 35},
	{0, 4, 9, 15, 16, 30, 45, 60},
	{0, 53, 54, 55, 56, 57, 58, 60},
	{0, 1, 2, 3, 4, 5, 6, 7},
}

// everyVisit calls f for all floors to visit of some buildings, from all of their floors.
func everyVisit(f func(floors []int, from int, visits []int)) {
	for _, floors := range slices.Concat(someFloors(), highBuildings) {
		for _, visits := range everyChoice(len(floors)) {
			for from := range floors {
				f(floors, from, visits)
			}
		}
	}
}

// everyTurn calls f for all orders of floors, each of them once in it.
func everyTurn(visits []int, f func(order []int)) {
	order := slices.Clone(visits)
	var turn func(done int)
	turn = func(done int) {
		if done == len(order) {
			f(order)
			return
		}
		for i := done; i < len(order); i++ {
			order[done], order[i] = order[i], order[done]
			turn(done + 1)
			order[done], order[i] = order[i], order[done]
		}
	}
	turn(0)
}

// everyOrder calls f for all orders of up to five of at most four floors, in which floors may be more than once, and for some longer ones of more floors.
func everyOrder(f func(floors []int, from int, order []int)) {
	for _, floors := range tourFloors {
		for many := range 6 {
			for _, order := range listsOf(many, everyNumber(len(floors))) {
				for from := range floors {
					f(floors, from, order)
				}
			}
		}
	}
	for _, floors := range highBuildings {
		for many := range 40 {
			order, _ := longTour(floors, many)
			for from := range floors {
				f(floors, from, order)
			}
		}
	}
}

// hasAll tells whether an order has all of some floors.
func hasAll(order, visits []int) bool {
	for _, floor := range visits {
		if !slices.Contains(order, floor) {
			return false
		}
	}
	return true
}

// onlyThose returns the floors of an order for which keep holds.
func onlyThose(order []int, keep func(floor int) bool) []int {
	var list []int
	for _, floor := range order {
		if keep(floor) {
			list = append(list, floor)
		}
	}
	return list
}

// wantTour follows the sentence of the document case by case.
func wantTour(floors []int, from int, visits []int) []int {
	if len(visits) == 0 {
		return nil
	}
	rising, falling := slices.Clone(visits), slices.Clone(visits)
	slices.Reverse(falling)
	below := func(floor int) bool { return floor < from }
	above := func(floor int) bool { return floor > from }
	notBelow := func(floor int) bool { return floor >= from }
	notAbove := func(floor int) bool { return floor <= from }
	switch lowest, highest := rising[0], falling[0]; {
	case !below(lowest):
		return rising
	case !above(highest):
		return falling
	case distance(floors[from], floors[lowest]) <= distance(floors[from], floors[highest]):
		return append(onlyThose(falling, notAbove), onlyThose(rising, above)...)
	default:
		return append(onlyThose(rising, notBelow), onlyThose(falling, below)...)
	}
}

// shortestWay returns the way between the lowest and the highest one of all floors, and to the nearer one of both.
func shortestWay(floors []int, from int, visits []int) int {
	lowest, highest := floors[from], floors[from]
	for _, floor := range visits {
		lowest, highest = min(lowest, floors[floor]), max(highest, floors[floor])
	}
	return highest - lowest + min(floors[from]-lowest, highest-floors[from])
}

// badVisits returns lists that are no floors to visit in a building, each because of a floor that is none, one that comes again, or one that is not in order.
func badVisits(floors []int) [][]int {
	all := everyNumber(len(floors))
	list := [][]int{{1, 0}, {len(floors) - 1, 0}, {0, 0}, {-1, 0}, {-2, -1}}
	for _, none := range noFloors(floors) {
		list = append(list, []int{none, none})
		for place := range len(all) + 1 {
			list = append(list, slices.Insert(slices.Clone(all), place, none), slices.Insert(slices.Clone(all[place:]), 0, none), append(slices.Clone(all[:place]), none))
		}
	}
	for place := range all {
		list = append(list, slices.Insert(slices.Clone(all), place, place), append(slices.Clone(all), place))
		if place > 0 {
			exchanged := slices.Clone(all)
			exchanged[place-1], exchanged[place] = exchanged[place], exchanged[place-1]
			list = append(list, exchanged)
		}
	}
	return list
}

func TestVisitsByHand(t *testing.T) {
	floors := []int{0, 4, 9, 12, 20}
	for _, visits := range [][]int{nil, {}, {0}, {4}, {0, 4}, {1, 2}, {0, 1, 2, 3, 4}} {
		if !impl.VisitsOk(floors, visits) {
			t.Errorf("%v are not visited", visits)
		}
	}
	for _, visits := range [][]int{{-1}, {5}, {9}, {20}, {3, 0}, {2, 2}, {0, 2, 1}, {0, 3, 3}, {0, 0, 3}, {-1, 0}, {-1, 4}, {3, 4, 5}, {0, 5, 4}, {4, 3, 2, 1, 0}, {math.MinInt, 0}, {0, math.MaxInt}} {
		if impl.VisitsOk(floors, visits) {
			t.Errorf("%v are visited", visits)
		}
	}
	if !impl.VisitsOk([]int{0}, nil) || !impl.VisitsOk([]int{0}, []int{0}) || impl.VisitsOk([]int{0}, []int{1}) || impl.VisitsOk([]int{0}, []int{0, 0}) {
		t.Error("one floor")
	}
}

func TestVisitsAreFloorsInAscendingOrder(t *testing.T) {
	for _, floors := range tourFloors {
		choices := everyChoice(len(floors))
		for many := range 6 {
			for _, visits := range listsOf(many, numbersFrom(-1, len(floors))) {
				want := slices.ContainsFunc(choices, func(choice []int) bool { return slices.Equal(choice, visits) })
				if got := impl.VisitsOk(floors, visits); got != want {
					t.Fatalf("VisitsOk(%v, %v) = %v", floors, visits, got)
				}
			}
		}
	}
}

func TestP78FewerFloorsCanBeVisited(t *testing.T) {
	everyVisit(func(floors []int, _ int, visits []int) {
		for first := range len(visits) + 1 {
			if !impl.VisitsOk(floors, visits[first:]) {
				t.Fatalf("without the first %d of %v they cannot be visited in %v", first, visits, floors)
			}
		}
	})
}

func TestP78WithTheLastFloorTwiceTheyAreNotInOrder(t *testing.T) {
	everyVisit(func(floors []int, _ int, visits []int) {
		if len(visits) > 0 && impl.VisitsOk(floors, append(slices.Clone(visits), visits[len(visits)-1])) {
			t.Fatalf("%v with the last one twice can be visited in %v", visits, floors)
		}
	})
}

func TestTourWayByHand(t *testing.T) {
	floors := []int{0, 4, 9, 12, 20}
	for _, c := range []struct {
		from  int
		order []int
		want  int
	}{
		{0, nil, 0},
		{4, []int{}, 0},
		{2, []int{2}, 0},
		{2, []int{2, 2, 2}, 0},
		{2, []int{0}, 9},
		{2, []int{4}, 11},
		{1, []int{4, 0}, 36},
		{1, []int{0, 4}, 24},
		{0, []int{1, 2, 3, 4}, 20},
		{4, []int{3, 2, 1, 0}, 20},
		{3, []int{0, 0}, 12},
		{3, []int{0, 3, 0}, 36},
		{0, []int{4, 0, 4, 0, 4}, 100},
		{2, []int{3, 1, 4, 0}, 47},
		{0, slices.Repeat([]int{4, 0}, 500), 20000},
	} {
		if got := impl.TourWay(floors, c.from, c.order); got != c.want {
			t.Errorf("TourWay(%v, %d, %v) = %d, not %d", floors, c.from, c.order, got, c.want)
		}
	}
	if impl.TourWay([]int{0}, 0, nil) != 0 || impl.TourWay([]int{0}, 0, []int{0, 0}) != 0 {
		t.Error("one floor")
	}
}

func TestTourWayIsTheSumOfAllWays(t *testing.T) {
	everyOrder(func(floors []int, from int, order []int) {
		want, at := 0, floors[from]
		for _, floor := range order {
			want += distance(at, floors[floor])
			at = floors[floor]
		}
		if got := impl.TourWay(floors, from, order); got != want {
			t.Fatalf("TourWay(%v, %d, %v) = %d, not %d", floors, from, order, got, want)
		}
	})
}

func TestP79WaysHaveParts(t *testing.T) {
	everyOrder(func(floors []int, from int, order []int) {
		whole, between := impl.TourWay(floors, from, order), from
		for many := range len(order) + 1 {
			if many > 0 {
				between = order[many-1]
			}
			first, others := impl.TourWay(floors, from, order[:many]), impl.TourWay(floors, between, order[many:])
			if first < 0 || others < 0 || first+others != whole {
				t.Fatalf("from %d over %v in %v the way is %d, but its parts behind %d floors are %d and %d", from, order, floors, whole, many, first, others)
			}
		}
	})
}

func TestP79TheWayToTheLastFloorAloneIsNotLonger(t *testing.T) {
	everyOrder(func(floors []int, from int, order []int) {
		if len(order) == 0 {
			return
		}
		if whole, alone := impl.TourWay(floors, from, order), impl.TourWay(floors, from, order[len(order)-1:]); alone < 0 || alone > whole {
			t.Fatalf("from %d over %v in %v the way is %d, but %d to the last one alone", from, order, floors, whole, alone)
		}
	})
}

// shortToursByHand holds tours with all that the document names, and what their ways are.
var shortToursByHand = []struct {
	why    string
	floors []int
	from   int
	visits []int
	want   []int
	way    int
}{
	{"no floors", []int{0, 4, 9, 12, 20}, 2, nil, nil, 0},
	{"the floor itself", []int{0, 4, 9, 12, 20}, 2, []int{2}, []int{2}, 0},
	{"the lowest one itself", []int{0, 4, 9, 12, 20}, 0, []int{0}, []int{0}, 0},
	{"the highest one itself", []int{0, 4, 9, 12, 20}, 4, []int{4}, []int{4}, 0},
	{"one above", []int{0, 4, 9, 12, 20}, 2, []int{4}, []int{4}, 11},
	{"one below", []int{0, 4, 9, 12, 20}, 2, []int{1}, []int{1}, 5},
	{"all above", []int{0, 4, 9, 12, 20}, 1, []int{2, 3, 4}, []int{2, 3, 4}, 16},
	{"all below", []int{0, 4, 9, 12, 20}, 3, []int{0, 1, 2}, []int{2, 1, 0}, 12},
	{"itself and all above", []int{0, 4, 9, 12, 20}, 2, []int{2, 3, 4}, []int{2, 3, 4}, 11},
	{"itself and all below", []int{0, 4, 9, 12, 20}, 2, []int{0, 1, 2}, []int{2, 1, 0}, 9},
	{"from the lowest one", []int{0, 4, 9, 12, 20}, 0, []int{0, 1, 2, 3, 4}, []int{0, 1, 2, 3, 4}, 20},
	{"from the highest one", []int{0, 4, 9, 12, 20}, 4, []int{0, 1, 2, 3, 4}, []int{4, 3, 2, 1, 0}, 20},
	{"lowest nearer", []int{0, 4, 9, 12, 20}, 2, []int{0, 1, 3, 4}, []int{1, 0, 3, 4}, 29},
	{"lowest nearer, and itself", []int{0, 4, 9, 12, 20}, 2, []int{0, 1, 2, 3, 4}, []int{2, 1, 0, 3, 4}, 29},
	{"highest nearer", []int{0, 4, 9, 12, 20}, 2, []int{0, 3}, []int{3, 0}, 15},
	{"highest nearer, and itself", []int{0, 4, 9, 12, 20}, 2, []int{0, 1, 2, 3}, []int{2, 3, 1, 0}, 15},
	{"lowest as near", []int{0, 5, 10, 15, 20}, 2, []int{0, 1, 3, 4}, []int{1, 0, 3, 4}, 30},
	{"lowest as near, and itself", []int{0, 5, 10, 15, 20}, 2, []int{0, 1, 2, 3, 4}, []int{2, 1, 0, 3, 4}, 30},
	{"neighbours as near", []int{0, 5, 10, 15, 20}, 2, []int{1, 3}, []int{1, 3}, 15},
	{"as near but for a step", []int{0, 5, 9, 14, 18}, 2, []int{1, 3}, []int{1, 3}, 4 + 9},
	{"nearer by a step", []int{0, 5, 10, 14, 18}, 2, []int{1, 3}, []int{3, 1}, 4 + 9},
	{"more floors on the nearer side", []int{0, 1, 2, 3, 10}, 3, []int{0, 1, 2, 4}, []int{2, 1, 0, 4}, 13},
	{"the nearest floor on the farther side", []int{0, 9, 10, 13}, 2, []int{0, 1, 3}, []int{3, 1, 0}, 16},
	{"steps count, not floors", []int{0, 20, 21, 22}, 1, []int{0, 3}, []int{3, 0}, 24},
	{"steps count, not floors, below", []int{0, 1, 2, 3, 30}, 3, []int{0, 4}, []int{0, 4}, 33},
	{"not the ends of the building", []int{0, 20, 24, 30, 31}, 2, []int{1, 3}, []int{1, 3}, 14},
	{"one floor, none to visit", []int{0}, 0, nil, nil, 0},
	{"one floor", []int{0}, 0, []int{0}, []int{0}, 0},
	{"MaxFloors, lowest nearer", []int{0, 4, 9, 15, 16, 30, 45, 60}, 3, []int{0, 1, 2, 3, 4, 5, 6, 7}, []int{3, 2, 1, 0, 4, 5, 6, 7}, 75},
	{"MaxFloors, highest nearer", []int{0, 4, 9, 15, 16, 30, 45, 60}, 6, []int{0, 1, 2, 3, 4, 5, 6, 7}, []int{6, 7, 5, 4, 3, 2, 1, 0}, 75},
	{"MaxFloors, lowest as near", []int{0, 4, 9, 15, 16, 30, 45, 60}, 5, []int{0, 1, 2, 3, 4, 5, 6, 7}, []int{5, 4, 3, 2, 1, 0, 6, 7}, 90},
	{"MaxFloors, some of them", []int{0, 4, 9, 15, 16, 30, 45, 60}, 4, []int{1, 3, 5}, []int{3, 1, 5}, 38},
}

func TestShortTourByHand(t *testing.T) {
	for _, c := range shortToursByHand {
		if got := impl.ShortTour(c.floors, c.from, c.visits); !slices.Equal(got, c.want) {
			t.Errorf("%s: ShortTour(%v, %d, %v) = %v, not %v", c.why, c.floors, c.from, c.visits, got, c.want)
		}
		if got := impl.ShortWay(c.floors, c.from, c.visits); got != c.way {
			t.Errorf("%s: ShortWay(%v, %d, %v) = %d, not %d", c.why, c.floors, c.from, c.visits, got, c.way)
		}
	}
}

func TestShortTourIsThatOfTheDocument(t *testing.T) {
	everyVisit(func(floors []int, from int, visits []int) {
		if got, want := impl.ShortTour(floors, from, visits), wantTour(floors, from, visits); !slices.Equal(got, want) {
			t.Fatalf("ShortTour(%v, %d, %v) = %v, not %v", floors, from, visits, got, want)
		}
	})
}

func TestP12TheTourHasEveryFloorOnce(t *testing.T) {
	everyVisit(func(floors []int, from int, visits []int) {
		tour := impl.ShortTour(floors, from, visits)
		if sorted := slices.Sorted(slices.Values(tour)); !slices.Equal(sorted, visits) {
			t.Fatalf("ShortTour(%v, %d, %v) = %v", floors, from, visits, tour)
		}
	})
}

func TestP12TheWayIsBetweenTheEndsAndToTheNearerOne(t *testing.T) {
	everyVisit(func(floors []int, from int, visits []int) {
		tour := impl.ShortTour(floors, from, visits)
		if got, want := impl.TourWay(floors, from, tour), shortestWay(floors, from, visits); got != want {
			t.Fatalf("from %d over %v in %v the way is %d, not %d", from, tour, floors, got, want)
		}
	})
}

func TestP12NoOrderIsShorter(t *testing.T) {
	for _, floors := range slices.Concat(tourFloors, highBuildings) {
		for _, visits := range everyChoice(len(floors)) {
			for from := range floors {
				tour := impl.ShortTour(floors, from, visits)
				way := impl.TourWay(floors, from, tour)
				everyTurn(visits, func(order []int) {
					if other := impl.TourWay(floors, from, order); other < way {
						t.Fatalf("from %d in %v the way is %d over %v, but %d over %v", from, floors, way, tour, other, order)
					}
				})
			}
		}
	}
}

func TestP13EveryOrderThatHasAllFloorsIsAsLongAtLeast(t *testing.T) {
	everyOrder(func(floors []int, from int, order []int) {
		way := impl.TourWay(floors, from, order)
		for _, visits := range everyChoice(len(floors)) {
			if !hasAll(order, visits) {
				continue
			}
			if short := impl.ShortWay(floors, from, visits); short < 0 || short > way {
				t.Fatalf("ShortWay(%v, %d, %v) = %d, but over %v it is %d", floors, from, visits, short, order, way)
			}
			if tour := impl.ShortTour(floors, from, visits); impl.TourWay(floors, from, tour) > way {
				t.Fatalf("ShortTour(%v, %d, %v) = %v, but %v is shorter", floors, from, visits, tour, order)
			}
		}
	})
}

func TestP13ShortWayIsThatOfShortTour(t *testing.T) {
	everyVisit(func(floors []int, from int, visits []int) {
		got := impl.ShortWay(floors, from, visits)
		if want := impl.TourWay(floors, from, impl.ShortTour(floors, from, visits)); got != want {
			t.Fatalf("ShortWay(%v, %d, %v) = %d, not %d", floors, from, visits, got, want)
		}
		if want := shortestWay(floors, from, visits); got != want {
			t.Fatalf("ShortWay(%v, %d, %v) = %d, but the way can be %d", floors, from, visits, got, want)
		}
	})
}

func TestP13WithOneFloorLessTheWayIsNotLonger(t *testing.T) {
	everyVisit(func(floors []int, from int, visits []int) {
		way := impl.ShortWay(floors, from, visits)
		for place := range visits {
			fewer := slices.Delete(slices.Clone(visits), place, place+1)
			if short := impl.ShortWay(floors, from, fewer); short < 0 || short > way {
				t.Fatalf("ShortWay(%v, %d, %v) = %d, but without the floor %d it is %d", floors, from, visits, way, visits[place], short)
			}
		}
	})
}

func TestShortWayWithoutFloorsToVisitIsNothing(t *testing.T) {
	for _, floors := range slices.Concat(tourFloors, highBuildings) {
		for from := range floors {
			for _, none := range [][]int{nil, {}} {
				if tour, way := impl.ShortTour(floors, from, none), impl.ShortWay(floors, from, none); len(tour) != 0 || way != 0 {
					t.Errorf("from %d in %v: %v, %d", from, floors, tour, way)
				}
			}
		}
	}
}

// visitRefused checks that there is no tour over floors.
func visitRefused(t *testing.T, floors []int, from int, visits []int) {
	t.Helper()
	if tour := impl.ShortTour(floors, from, visits); len(tour) != 0 {
		t.Fatalf("ShortTour(%v, %d, %v) = %v", floors, from, visits, tour)
	}
	if way := impl.ShortWay(floors, from, visits); way != -1 {
		t.Fatalf("ShortWay(%v, %d, %v) = %d", floors, from, visits, way)
	}
}

// wayRefused checks that there is no way over an order.
func wayRefused(t *testing.T, floors []int, from int, order []int) {
	t.Helper()
	if way := impl.TourWay(floors, from, order); way != -1 {
		t.Fatalf("TourWay(%v, %d, %v) = %d", floors, from, order, way)
	}
}

func TestToursOfVisitsThatAreNotValid(t *testing.T) {
	for _, floors := range slices.Concat(tourFloors, highBuildings) {
		for _, visits := range badVisits(floors) {
			if impl.VisitsOk(floors, visits) {
				t.Fatalf("VisitsOk(%v, %v)", floors, visits)
			}
			for from := range floors {
				visitRefused(t, floors, from, visits)
			}
		}
	}
}

func TestToursFromNoFloor(t *testing.T) {
	for _, floors := range slices.Concat(tourFloors, highBuildings) {
		for _, from := range noFloors(floors) {
			for _, visits := range append(everyChoice(len(floors)), badVisits(floors)...) {
				visitRefused(t, floors, from, visits)
				wayRefused(t, floors, from, visits)
			}
			wayRefused(t, floors, from, []int{0, 0})
		}
	}
}

func TestOrdersWithNoFloor(t *testing.T) {
	for _, floors := range slices.Concat(tourFloors, highBuildings) {
		order, _ := longTour(floors, 9)
		for _, none := range noFloors(floors) {
			for from := range floors {
				wayRefused(t, floors, from, []int{none})
				wayRefused(t, floors, from, []int{none, none})
				for place := range len(order) + 1 {
					wayRefused(t, floors, from, slices.Insert(slices.Clone(order), place, none))
				}
			}
		}
	}
}

func TestToursOfFloorsThatAreNotValid(t *testing.T) {
	for why, floors := range badFloors() {
		t.Run(why, func(t *testing.T) {
			for _, visits := range [][]int{nil, {}, {0}, {1}, {0, 1}, {1, 2}, {0, 1, 2}, {1, 0}} {
				if impl.VisitsOk(floors, visits) {
					t.Errorf("VisitsOk(%v, %v)", floors, visits)
				}
				for from := -1; from <= len(floors); from++ {
					visitRefused(t, floors, from, visits)
					wayRefused(t, floors, from, visits)
				}
			}
		})
	}
}

func TestShortTourSharesNoMemory(t *testing.T) {
	for _, floors := range highBuildings {
		for _, visits := range everyChoice(len(floors)) {
			for from := range floors {
				given := append(slices.Clone(visits), 88, 89)[:len(visits)]
				whole, floorsBefore := slices.Clone(given[:len(given)+2]), slices.Clone(floors)
				before := slices.Clone(impl.ShortTour(floors, from, given))
				tour := impl.ShortTour(floors, from, given)
				tour = tour[:cap(tour)]
				for i := range tour {
					tour[i] = -7
				}
				if !slices.Equal(given[:len(given)+2], whole) || !slices.Equal(floors, floorsBefore) {
					t.Fatalf("ShortTour(%v, %d, %v) shares memory with an argument", floors, from, visits)
				}
				if after := impl.ShortTour(floors, from, given); !slices.Equal(after, before) {
					t.Fatalf("ShortTour(%v, %d, %v) = %v, and then %v", floors, from, visits, before, after)
				}
			}
		}
	}
}

func TestShortToursWriteToNothing(t *testing.T) {
	for _, floors := range append(goodAndBadFloors(), highBuildings...) {
		// Behind the end of each list there is spare room, which is not to be written to either.
		whole := append(slices.Clone(floors), 77, 78)
		wholeBefore := slices.Clone(whole)
		given := whole[:len(floors)]
		for _, visits := range append(everyChoice(len(floors)), badVisits(floors)...) {
			list := append(slices.Clone(visits), 88, 89)
			listBefore := slices.Clone(list)
			for from := -1; from <= len(floors); from++ {
				impl.VisitsOk(given, list[:len(visits)])
				impl.TourWay(given, from, list[:len(visits)])
				impl.ShortTour(given, from, list[:len(visits)])
				impl.ShortWay(given, from, list[:len(visits)])
			}
			if !slices.Equal(whole, wholeBefore) || !slices.Equal(list, listBefore) {
				t.Fatalf("%v and %v became %v and %v", wholeBefore, listBefore, whole, list)
			}
		}
	}
}
