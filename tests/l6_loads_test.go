package tests

import (
	"math"
	"slices"
	"testing"

	"loop.example/elevators/impl"
)

// badWeights holds weights that no rider has, on both sides.
var badWeights = []int{math.MinInt, math.MinInt + 1, -41, -40, -1, 0, 41, 42, 80, math.MaxInt - 1, math.MaxInt}

// badLoads holds loads that no car carries, on both sides.
var badLoads = []int{math.MinInt, math.MinInt + 1, -41, -40, -20, -1, 41, 42, 60, 80, math.MaxInt - 1, math.MaxInt}

// tourFloors holds buildings with one floor, with floors side by side, and with uneven gaps up to the greatest height.
var tourFloors = [][]int{{0}, {0, 1}, {0, 4, 9}, {0, 7, 59, 60}}

// numbersFrom returns the numbers in low..high.
func numbersFrom(low, high int) []int {
	var list []int
	for n := low; n <= high; n++ {
		list = append(list, n)
	}
	return list
}

// everyParty calls f for all weights of up to three riders, and for as many riders as there may be with weights that are together near MaxLoad or far above it.
func everyParty(f func(weights []int)) {
	for many := range 4 {
		for _, weights := range listsOf(many, numbersFrom(1, impl.MaxLoad)) {
			f(weights)
		}
	}
	for many := 4; many <= impl.MaxInside; many++ {
		for _, weights := range slices.Concat(listsOf(many, []int{1, 5, 6}), listsOf(many, []int{2, 13, 40})) {
			f(weights)
		}
	}
}

// badParties returns weights of which one is none at any place, and those of too many riders.
func badParties() [][]int {
	list := [][]int{
		slices.Repeat([]int{1}, 9), slices.Repeat([]int{1}, 10), slices.Repeat([]int{40}, 9), slices.Repeat([]int{0}, 9), slices.Repeat([]int{3}, 100),
		{math.MaxInt, math.MinInt}, {math.MaxInt, math.MaxInt, 5}, {-5, 10}, {41, -1}, {0, 0},
	}
	for _, weight := range badWeights {
		for many := range impl.MaxInside {
			for place := range many + 1 {
				list = append(list, slices.Insert(slices.Repeat([]int{7}, many), place, weight))
			}
		}
	}
	return list
}

// firstByPuttingIn returns how many riders get in, one after the other, until the next one would be too much.
func firstByPuttingIn(weights []int) int {
	room := 40
	for i, weight := range weights {
		room -= weight
		if room < 0 {
			return i
		}
	}
	return len(weights)
}

// everyTrip calls f for all trips of all loads between two floors of all buildings.
func everyTrip(f func(floors []int, from, to, load int)) {
	for _, floors := range slices.Concat(tourFloors, liftFloors) {
		for from := range floors {
			for to := range floors {
				for load := range impl.MaxLoad + 1 {
					f(floors, from, to, load)
				}
			}
		}
	}
}

// workByStep adds up what a trip costs step by step of its way, not all at once.
func workByStep(floors []int, from, to, load int) int {
	work := 0
	for at := floors[from]; at < floors[to]; at++ {
		work += load - 20
	}
	for at := floors[from]; at > floors[to]; at-- {
		work -= load - 20
	}
	return work
}

// everyTour calls f for all tours of up to four floors with some loads.
func everyTour(f func(floors, stops, loads []int)) {
	for _, floors := range tourFloors {
		for trips := range 4 {
			for _, stops := range listsOf(trips+1, everyNumber(len(floors))) {
				for _, loads := range listsOf(trips, []int{0, 19, 20, 40}) {
					f(floors, stops, loads)
				}
			}
		}
	}
}

// longTour returns a tour over so many ways in a building, with loads of all kinds.
func longTour(floors []int, trips int) (stops, loads []int) {
	stops = []int{0}
	for i := range trips {
		stops = append(stops, (i*i+3*i+1)%len(floors))
		loads = append(loads, (i*17+5)%(impl.MaxLoad+1))
	}
	return stops, loads
}

// tourCosts checks what a tour costs.
func tourCosts(t *testing.T, floors, stops, loads []int, want int) {
	t.Helper()
	if got, ok := impl.TourWork(floors, stops, loads); !ok || got != want {
		t.Fatalf("TourWork(%v, %v, %v) = %d, %v, not %d", floors, stops, loads, got, ok, want)
	}
}

// tourRefused checks that a tour costs nothing because it is none.
func tourRefused(t *testing.T, floors, stops, loads []int) {
	t.Helper()
	if got, ok := impl.TourWork(floors, stops, loads); ok || got != 0 {
		t.Fatalf("TourWork(%v, %v, %v) = %d, %v", floors, stops, loads, got, ok)
	}
}

// tripRefused checks that a trip costs nothing because it is none.
func tripRefused(t *testing.T, floors []int, from, to, load int) {
	t.Helper()
	if got, ok := impl.TripWork(floors, from, to, load); ok || got != 0 {
		t.Fatalf("TripWork(%v, %d, %d, %d) = %d, %v", floors, from, to, load, got, ok)
	}
}

func TestLoadConstants(t *testing.T) {
	if impl.MaxLoad != 40 || impl.MaxInside != 8 {
		t.Errorf("MaxLoad = %d, MaxInside = %d", impl.MaxLoad, impl.MaxInside)
	}
}

func TestWeightsByHand(t *testing.T) {
	tests := []struct {
		weights []int
		sum     int
		over    bool
		first   int
	}{
		{nil, 0, false, 0}, {[]int{}, 0, false, 0}, // no riders at all
		{[]int{1}, 1, false, 1}, {[]int{40}, 40, false, 1}, {[]int{39}, 39, false, 1},
		{[]int{9, 30, 1}, 40, false, 3}, {[]int{9, 30, 2}, 41, true, 2}, {[]int{9, 30, 2, 1}, 42, true, 2}, // exactly MaxLoad and one above it
		{[]int{40, 1}, 41, true, 1}, {[]int{1, 40}, 41, true, 1}, {[]int{40, 40}, 80, true, 1}, {[]int{20, 20}, 40, false, 2}, {[]int{20, 21}, 41, true, 1},
		{[]int{1, 40, 1}, 42, true, 1}, {[]int{38, 3, 1}, 42, true, 1}, {[]int{38, 1, 3, 1}, 43, true, 2}, // who is too heavy is not passed over
		{[]int{5, 5, 5, 5, 5, 5, 5, 5}, 40, false, 8}, {[]int{5, 5, 5, 5, 5, 5, 5, 6}, 41, true, 7}, {[]int{1, 1, 1, 1, 1, 1, 1, 1}, 8, false, 8},
		{[]int{6, 5, 5, 5, 5, 5, 5, 5}, 41, true, 7}, {[]int{40, 40, 40, 40, 40, 40, 40, 40}, 320, true, 1}, // as many riders as there may be
		{[]int{1, 1, 1, 1, 1, 1, 1, 1, 1}, -1, false, -1}, {[]int{5, 5, 5, 5, 5, 5, 5, 5, 5}, -1, false, -1}, // and one more
		{[]int{0}, -1, false, -1}, {[]int{-1}, -1, false, -1}, {[]int{41}, -1, false, -1}, {[]int{9, 30, 0}, -1, false, -1},
		{[]int{40, 40, 41}, -1, false, -1}, {[]int{9, -30, 30}, -1, false, -1}, {[]int{40, 1, 0}, -1, false, -1}, {[]int{9, 30, 2, 41}, -1, false, -1},
	}
	for _, x := range tests {
		sum, over, first := impl.LoadSum(x.weights), impl.Overloaded(x.weights), impl.LoadFirst(x.weights)
		if sum != x.sum || over != x.over || first != x.first {
			t.Errorf("%v: LoadSum %d, Overloaded %v, LoadFirst %d, not %d, %v, %d", x.weights, sum, over, first, x.sum, x.over, x.first)
		}
	}
}

func TestWeightsThatAreNotValid(t *testing.T) {
	for _, weights := range badParties() {
		sum, over, first := impl.LoadSum(weights), impl.Overloaded(weights), impl.LoadFirst(weights)
		if sum != -1 || over || first != -1 {
			t.Fatalf("%v: LoadSum %d, Overloaded %v, LoadFirst %d", weights, sum, over, first)
		}
	}
}

func TestP62LoadsAddUp(t *testing.T) {
	everyParty(func(weights []int) {
		all := impl.LoadSum(weights)
		if all < len(weights) {
			t.Fatalf("LoadSum(%v) = %d", weights, all)
		}
		for many := range len(weights) + 1 {
			if first, others := impl.LoadSum(weights[:many]), impl.LoadSum(weights[many:]); first+others != all {
				t.Fatalf("%v: the first %d have %d, the others %d, all %d", weights, many, first, others, all)
			}
		}
	})
}

func TestP62OneRiderIsAsHeavyAsToldAndNobodyIsNothing(t *testing.T) {
	for weight := 1; weight <= impl.MaxLoad; weight++ {
		if got := impl.LoadSum([]int{weight}); got != weight {
			t.Errorf("LoadSum of %d = %d", weight, got)
		}
	}
	if got := impl.LoadSum(nil); got != 0 {
		t.Errorf("LoadSum of nobody = %d", got)
	}
}

func TestOverloadedIsMoreThanMaxLoad(t *testing.T) {
	everyParty(func(weights []int) {
		room := 40
		for _, weight := range weights {
			room -= weight
		}
		if got := impl.Overloaded(weights); got != (room < 0) {
			t.Fatalf("Overloaded(%v) = %v", weights, got)
		}
	})
}

func TestP63WhenOneGetsOutItIsLighter(t *testing.T) {
	everyParty(func(weights []int) {
		if len(weights) == 0 {
			return
		}
		last := len(weights) - 1
		if !impl.Overloaded(weights) && impl.Overloaded(weights[:last]) {
			t.Fatalf("%v is not overloaded, but is without the last rider", weights)
		}
		if impl.LoadSum(weights) != impl.LoadSum(weights[:last])+weights[last] {
			t.Fatalf("without its last rider %v is not lighter by this weight", weights)
		}
	})
}

func TestP64AsManyGetInAsCan(t *testing.T) {
	everyParty(func(weights []int) {
		many := impl.LoadFirst(weights)
		if many < 0 || many > len(weights) || impl.Overloaded(weights[:many]) {
			t.Fatalf("LoadFirst(%v) = %d is too many", weights, many)
		}
		if many < len(weights) && !impl.Overloaded(weights[:many+1]) {
			t.Fatalf("LoadFirst(%v) = %d, but one more can get in", weights, many)
		}
		if want := firstByPuttingIn(weights); many != want {
			t.Fatalf("LoadFirst(%v) = %d, not %d", weights, many, want)
		}
	})
}

func TestTripWorkByHand(t *testing.T) {
	tests := []struct{ from, to, load, work int }{
		{0, 2, 25, 45}, {2, 0, 25, -45}, {0, 1, 30, 40}, {1, 2, 30, 50}, {2, 1, 30, -50},
		{0, 1, 0, -80}, {1, 0, 0, 80}, {0, 2, 0, -180}, {2, 0, 0, 180}, // an empty car is pulled up, and has to be pulled down
		{0, 2, 20, 0}, {2, 0, 20, 0}, {1, 2, 20, 0}, // half of MaxLoad
		{0, 2, 19, -9}, {0, 2, 21, 9}, {2, 0, 19, 9}, {2, 0, 21, -9},
		{0, 2, 40, 180}, {2, 0, 40, -180}, {1, 0, 40, -80}, {1, 2, 40, 100}, // a full car
		{0, 0, 0, 0}, {1, 1, 40, 0}, {2, 2, 7, 0}, // from a floor to itself
	}
	for _, x := range tests {
		if got, ok := impl.TripWork([]int{0, 4, 9}, x.from, x.to, x.load); !ok || got != x.work {
			t.Errorf("TripWork from %d to %d with %d = %d, %v, not %d", x.from, x.to, x.load, got, ok, x.work)
		}
	}
	if got, ok := impl.TripWork([]int{0, 60}, 1, 0, 0); !ok || got != 1200 {
		t.Errorf("over the greatest height an empty car costs %d, %v", got, ok)
	}
	if got, ok := impl.TripWork([]int{0}, 0, 0, 0); !ok || got != 0 {
		t.Errorf("in a building of one floor a trip costs %d, %v", got, ok)
	}
}

func TestTripWorkIsThatOfAllSteps(t *testing.T) {
	everyTrip(func(floors []int, from, to, load int) {
		if got, ok := impl.TripWork(floors, from, to, load); !ok || got != workByStep(floors, from, to, load) {
			t.Fatalf("TripWork(%v, %d, %d, %d) = %d, %v", floors, from, to, load, got, ok)
		}
	})
}

func TestP65WhatGoesUpAndComesDownAgainCostsNothing(t *testing.T) {
	everyTrip(func(floors []int, from, to, load int) {
		there, ok := impl.TripWork(floors, from, to, load)
		back, okBack := impl.TripWork(floors, to, from, load)
		if !ok || !okBack || there != -back {
			t.Fatalf("from %d to %d of %v with %d: %d, %v, and back %d, %v", from, to, floors, load, there, ok, back, okBack)
		}
		if load > 20 && to > from && there <= 0 {
			t.Fatalf("up from %d to %d of %v with %d: %d", from, to, floors, load, there)
		}
	})
}

func TestP65HalfCostsNothingAndEmptyAndFullTogetherNeither(t *testing.T) {
	everyTrip(func(floors []int, from, to, load int) {
		got, ok := impl.TripWork(floors, from, to, load)
		if load == impl.MaxLoad/2 && (!ok || got != 0) {
			t.Fatalf("from %d to %d of %v half of MaxLoad costs %d, %v", from, to, floors, got, ok)
		}
		// What is true of an empty and a full car is so of any two that are as far from the half on both sides.
		other, okOther := impl.TripWork(floors, from, to, impl.MaxLoad-load)
		if !ok || !okOther || got+other != 0 {
			t.Fatalf("from %d to %d of %v: %d costs %d, %v, and %d costs %d, %v", from, to, floors, load, got, ok, impl.MaxLoad-load, other, okOther)
		}
	})
}

func TestTripsThatAreNotValid(t *testing.T) {
	for _, floors := range slices.Concat(tourFloors, liftFloors) {
		top := len(floors) - 1
		for _, load := range badLoads {
			tripRefused(t, floors, 0, top, load)
			tripRefused(t, floors, top, 0, load)
			tripRefused(t, floors, top, top, load)
		}
		for _, none := range noFloors(floors) {
			for _, load := range []int{-1, 0, 7, 20, 40, 41} {
				tripRefused(t, floors, none, 0, load)
				tripRefused(t, floors, top, none, load)
				tripRefused(t, floors, none, none, load)
			}
		}
	}
}

func TestTripsAndToursOfFloorsThatAreNotValid(t *testing.T) {
	for why, floors := range badFloors() {
		t.Run(why, func(t *testing.T) {
			for from := -1; from <= len(floors); from++ {
				tourRefused(t, floors, []int{from}, nil)
				for to := -1; to <= len(floors); to++ {
					for _, load := range []int{0, 20, 33, 40} {
						tripRefused(t, floors, from, to, load)
						tourRefused(t, floors, []int{from, to}, []int{load})
					}
				}
			}
		})
	}
}

func TestTourWorkByHand(t *testing.T) {
	tests := []struct {
		stops, loads []int
		work         int
	}{
		{[]int{0}, nil, 0}, {[]int{1}, []int{}, 0}, {[]int{2}, nil, 0}, // one floor without loads
		{[]int{0, 2}, []int{25}, 45}, {[]int{0, 2, 1}, []int{25, 30}, -5}, {[]int{0, 2, 1}, []int{30, 25}, 65}, // the order of the loads counts
		{[]int{0, 2, 0}, []int{25, 25}, 0}, {[]int{0, 1, 2, 0}, []int{33, 33, 33}, 0}, {[]int{1, 0, 2, 1}, []int{0, 0, 0}, 0}, // it ends where it began
		{[]int{0, 2, 0}, []int{40, 0}, 360}, {[]int{0, 2, 0}, []int{0, 40}, -360}, {[]int{2, 0, 2}, []int{0, 40}, 360}, // with other loads it costs something
		{[]int{0, 1, 2}, []int{20, 20}, 0}, {[]int{1, 1}, []int{40}, 0}, {[]int{1, 1, 2, 2}, []int{40, 40, 0}, 100},
		{[]int{0, 1, 0, 2, 1}, []int{0, 40, 21, 19}, -80 - 80 + 9 + 5},
	}
	for _, x := range tests {
		tourCosts(t, []int{0, 4, 9}, x.stops, x.loads, x.work)
	}
	tourCosts(t, []int{0}, []int{0}, nil, 0)
	tourCosts(t, []int{0}, []int{0, 0, 0}, []int{0, 40}, 0)
}

func TestTourWorkIsThatOfAllTrips(t *testing.T) {
	everyTour(func(floors, stops, loads []int) {
		want := 0
		for i, load := range loads {
			want += workByStep(floors, stops[i], stops[i+1], load)
		}
		tourCosts(t, floors, stops, loads, want)
	})
}

func TestP9ATourThatEndsWhereItBeganCostsNothing(t *testing.T) {
	for _, floors := range tourFloors {
		for trips := range 5 {
			for _, stops := range listsOf(trips, everyNumber(len(floors))) {
				stops = append(stops, 0)
				stops[trips] = stops[0]
				for load := range impl.MaxLoad + 1 {
					tourCosts(t, floors, stops, slices.Repeat([]int{load}, trips), 0)
				}
			}
		}
	}
}

func TestP9TwoPartsOfATourCostTogetherAsMuchAsAll(t *testing.T) {
	inTwoParts := func(floors, stops, loads []int) {
		all, ok := impl.TourWork(floors, stops, loads)
		for first := range len(stops) {
			one, okOne := impl.TourWork(floors, stops[:first+1], loads[:first])
			two, okTwo := impl.TourWork(floors, stops[first:], loads[first:])
			if !ok || !okOne || !okTwo || one+two != all {
				t.Fatalf("%v, %v in %v: %d, %v, in parts from the stop %d on %d, %v and %d, %v", stops, loads, floors, all, ok, first, one, okOne, two, okTwo)
			}
		}
	}
	everyTour(inTwoParts)
	for _, floors := range liftFloors {
		stops, loads := longTour(floors, 150)
		inTwoParts(floors, stops, loads)
	}
}

func TestP9LongToursToo(t *testing.T) {
	for _, floors := range liftFloors {
		for _, trips := range []int{8, 9, 40, 41, 1000} {
			stops, loads := longTour(floors, trips)
			want := 0
			for i, load := range loads {
				want += workByStep(floors, stops[i], stops[i+1], load)
			}
			tourCosts(t, floors, stops, loads, want)
			stops[trips] = stops[0]
			tourCosts(t, floors, stops, slices.Repeat([]int{3}, trips), 0)
		}
	}
}

func TestToursWithTooManyOrTooFewLoads(t *testing.T) {
	floors := []int{0, 4, 9}
	for stops := range 8 {
		for loads := range 8 {
			// Floors that are all the same and loads that are half of MaxLoad cost nothing, but that is told by true.
			if stops != loads+1 {
				tourRefused(t, floors, make([]int, stops), slices.Repeat([]int{20}, loads))
				tourRefused(t, floors, make([]int, stops), slices.Repeat([]int{33}, loads))
			}
		}
	}
	tourRefused(t, floors, nil, nil)
	tourRefused(t, floors, []int{}, []int{})
	tourRefused(t, floors, nil, []int{20})
	tourRefused(t, floors, []int{0, 2}, []int{25, 30})
	tourRefused(t, floors, []int{0, 2}, nil)
	tourRefused(t, nil, nil, nil)
}

func TestToursOverNoFloor(t *testing.T) {
	for _, floors := range tourFloors {
		for _, none := range noFloors(floors) {
			tourRefused(t, floors, []int{none}, nil)
			for trips := range 5 {
				for place := range trips + 1 {
					stops := make([]int, trips+1)
					stops[place] = none
					tourRefused(t, floors, stops, slices.Repeat([]int{20}, trips))
					tourRefused(t, floors, stops, slices.Repeat([]int{25}, trips))
				}
			}
		}
	}
}

func TestToursWithLoadsThatAreNone(t *testing.T) {
	for _, floors := range tourFloors {
		top := len(floors) - 1
		for _, none := range badLoads {
			for trips := 1; trips < 5; trips++ {
				for place := range trips {
					loads := slices.Repeat([]int{25}, trips)
					loads[place] = none
					tourRefused(t, floors, make([]int, trips+1), loads)
					tourRefused(t, floors, slices.Repeat([]int{0, top}, trips)[:trips+1], loads)
				}
			}
		}
	}
}

func TestWeightsAreNotWrittenTo(t *testing.T) {
	weights := []int{9, 30, 2, 40, 1, 5, 41, 0, -3, 8, 8}
	before := slices.Clone(weights)
	for from := range weights {
		for to := from; to <= len(weights); to++ {
			// Behind the end there is spare room, which is not to be written to either.
			given := weights[from:to]
			impl.LoadSum(given)
			impl.Overloaded(given)
			impl.LoadFirst(given)
			if !slices.Equal(weights, before) {
				t.Fatalf("%v became %v", before, weights)
			}
		}
	}
}

func TestToursAreNotWrittenTo(t *testing.T) {
	for _, floors := range goodAndBadFloors() {
		whole := append(slices.Clone(floors), 77, 78)
		stops, loads := []int{0, 1, 1, 0, 2, 0, 9, 1}, []int{0, 40, 20, 7, 25, 41, 3}
		wholeBefore, stopsBefore, loadsBefore := slices.Clone(whole), slices.Clone(stops), slices.Clone(loads)
		given := whole[:len(floors)]
		for many := range len(stops) + 1 {
			for trips := range len(loads) + 1 {
				impl.TripWork(given, many-1, trips-1, many*7)
				impl.TourWork(given, stops[:many], loads[:trips])
			}
		}
		if !slices.Equal(whole, wholeBefore) || !slices.Equal(stops, stopsBefore) || !slices.Equal(loads, loadsBefore) {
			t.Fatalf("%v: now there are %v, %v and %v", wholeBefore, whole, stops, loads)
		}
	}
}
