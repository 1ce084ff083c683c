package tests

import (
	"math"
	"slices"
	"testing"

	"loop.example/elevators/impl"
)

// badOften holds numbers that do not tell how often there are calls.
var badOften = []int{math.MinInt, math.MinInt + 1, -20, -1, 21, 22, 60, math.MaxInt - 1, math.MaxInt}

// manyCars holds numbers of cars, up to more than there can be floors.
var manyCars = []int{1, 2, 3, 4, 5, 6, 7, 8, 9, 24, math.MaxInt}

// oftenOf returns how often there are calls at so many floors: all lists of some numbers for up to three floors, and some lists for more.
func oftenOf(floors int) [][]int {
	if floors <= 2 {
		return listsOf(floors, []int{0, 1, 2, 5, 19, 20})
	}
	if floors == 3 {
		return listsOf(floors, []int{0, 1, 2, 20})
	}
	list := [][]int{make([]int, floors), slices.Repeat([]int{1}, floors), slices.Repeat([]int{impl.MaxOften}, floors), everyNumber(floors), turnedRound(everyNumber(floors))}
	for turn := range 5 {
		list = append(list, mixedFloors(everyNumber(2), floors, turn), mixedFloors(everyNumber(4), floors, turn), mixedFloors(everyNumber(impl.MaxOften+1), floors, turn))
	}
	for floor := range floors {
		only := make([]int, floors)
		only[floor] = floor + 1
		list = append(list, only)
	}
	return list
}

// waitBuildings returns buildings of one to MaxFloors floors.
func waitBuildings() [][]int {
	return slices.Concat(liftFloors, tourFloors, highBuildings, [][]int{{0, 4, 9, 12}, {0, 10, 20, 30, 40}, {0, 1, 2, 4, 8, 16}, {0, 2, 5, 9, 14, 20, 27}})
}

// everyOften calls f for buildings of all numbers of floors, and how often there are calls at them.
func everyOften(f func(floors, often []int)) {
	for _, floors := range waitBuildings() {
		for _, often := range oftenOf(len(floors)) {
			f(floors, often)
		}
	}
}

// somePlaces returns floors at which up to MaxFloors cars wait, in any order and also several at the same one: all lists for few floors, and all choices of floors and some lists for many.
func somePlaces(floors []int) [][]int {
	var list [][]int
	all := everyNumber(len(floors))
	for cars := 1; cars <= impl.MaxFloors; cars++ {
		if cars <= 2 || len(floors) <= 2 {
			list = append(list, listsOf(cars, all)...)
			continue
		}
		for turn := range 5 {
			list = append(list, mixedFloors(all, cars, turn))
		}
	}
	for _, places := range everyChoice(len(floors))[1:] {
		list = append(list, places, turnedRound(places))
	}
	return list
}

// wantCost takes each call on its own, and looks step by step for a floor at which a car waits.
func wantCost(floors, often, places []int) int {
	cost := 0
	for floor, calls := range often {
		way := 0
		for !slices.ContainsFunc(places, func(place int) bool { return distance(floors[place], floors[floor]) == way }) {
			way++
		}
		for range calls {
			cost += way
		}
	}
	return cost
}

// wantPlaces looks through all choices of floors, of which everyChoice tells those with the lesser sum of 2^k first.
func wantPlaces(floors, often []int, cars int) []int {
	var best []int
	least := math.MaxInt
	for _, places := range everyChoice(len(floors))[1:] {
		if len(places) > cars {
			continue
		}
		cost := wantCost(floors, often, places)
		if cost < least || cost == least && len(places) < len(best) {
			best, least = places, cost
		}
	}
	return best
}

// waitsByHand holds waiting places with all that the document names.
var waitsByHand = []struct {
	why    string
	floors []int
	often  []int
	cars   int
	places []int
	cost   int
}{
	{"one floor, one car", []int{0}, []int{7}, 1, []int{0}, 0},
	{"one floor without calls", []int{0}, []int{0}, 1, []int{0}, 0},
	{"one floor, more cars than floors", []int{0}, []int{20}, 4, []int{0}, 0},
	{"one floor, as many cars as can be told", []int{0}, []int{20}, math.MaxInt, []int{0}, 0},
	{"two floors, more calls above", []int{0, 60}, []int{19, 20}, 1, []int{1}, 19 * 60},
	{"two floors, more calls below", []int{0, 60}, []int{20, 19}, 1, []int{0}, 19 * 60},
	{"two floors, as many calls, the lower one", []int{0, 60}, []int{20, 20}, 1, []int{0}, 20 * 60},
	{"two floors, a car for each", []int{0, 60}, []int{20, 20}, 2, []int{0, 1}, 0},
	{"two floors, the lower one without calls", []int{0, 60}, []int{0, 1}, 2, []int{1}, 0},
	{"no calls at any floor, one car", []int{0, 4, 9}, []int{0, 0, 0}, 1, []int{0}, 0},
	{"no calls at any floor, as many cars as floors", []int{0, 4, 9}, []int{0, 0, 0}, 3, []int{0}, 0},
	{"no calls at any floor, more cars than floors", []int{0, 4, 9}, []int{0, 0, 0}, 9, []int{0}, 0},
	{"no calls at any of MaxFloors floors", []int{0, 1, 2, 3, 4, 5, 6, 7}, make([]int, 8), 8, []int{0}, 0},
	{"calls at one floor, one car", []int{0, 4, 9, 12}, []int{0, 7, 0, 0}, 1, []int{1}, 0},
	{"calls at one floor, fewer places than cars", []int{0, 4, 9, 12}, []int{0, 7, 0, 0}, 3, []int{1}, 0},
	{"calls at one floor, more cars than floors", []int{0, 4, 9, 12}, []int{0, 0, 0, 1}, 5, []int{3}, 0},
	{"calls at the ends, one car, all floors cost the same", []int{0, 4, 9, 12}, []int{3, 0, 0, 3}, 1, []int{0}, 36},
	{"calls at the ends, two cars", []int{0, 4, 9, 12}, []int{3, 0, 0, 3}, 2, []int{0, 3}, 0},
	{"calls at the ends, three cars, two are enough", []int{0, 4, 9, 12}, []int{3, 0, 0, 3}, 3, []int{0, 3}, 0},
	{"one car in the middle", []int{0, 4, 9, 12}, []int{5, 1, 2, 3}, 1, []int{1}, 20 + 10 + 24},
	{"two cars", []int{0, 4, 9, 12}, []int{5, 1, 2, 3}, 2, []int{0, 3}, 4 + 6},
	{"three cars", []int{0, 4, 9, 12}, []int{5, 1, 2, 3}, 3, []int{0, 2, 3}, 4},
	{"as many cars as floors", []int{0, 4, 9, 12}, []int{5, 1, 2, 3}, 4, []int{0, 1, 2, 3}, 0},
	{"more cars than floors", []int{0, 4, 9, 12}, []int{5, 1, 2, 3}, 5, []int{0, 1, 2, 3}, 0},
	{"as many cars as can be told", []int{0, 4, 9, 12}, []int{5, 1, 2, 3}, math.MaxInt, []int{0, 1, 2, 3}, 0},
	{"as many cars as floors, one floor without calls", []int{0, 4, 9, 12}, []int{5, 1, 0, 3}, 4, []int{0, 1, 3}, 0},
	{"one car, two floors cost the same", []int{0, 1, 2, 3}, []int{1, 1, 1, 1}, 1, []int{1}, 1 + 1 + 2},
	{"two cars, several places cost the same", []int{0, 1, 2, 3}, []int{1, 1, 1, 1}, 2, []int{0, 2}, 2},
	{"three cars, several places cost the same", []int{0, 1, 2, 3}, []int{1, 1, 1, 1}, 3, []int{0, 1, 2}, 1},
	{"two pairs of floors, two cars", []int{0, 1, 30, 31}, []int{2, 2, 2, 2}, 2, []int{0, 2}, 4},
	{"two pairs of floors, more calls above in each", []int{0, 1, 30, 31}, []int{2, 3, 2, 3}, 2, []int{1, 3}, 4},
	{"two pairs of floors, one car", []int{0, 1, 30, 31}, []int{2, 2, 2, 2}, 1, []int{1}, 2 + 58 + 60},
	{"a floor in between without calls", []int{0, 10, 20}, []int{1, 0, 1}, 1, []int{0}, 20},
	{"a floor in between that is nearer to all", []int{0, 10, 20}, []int{1, 1, 1}, 1, []int{1}, 20},
	{"more calls at an end than at all others", []int{0, 10, 20}, []int{1, 3, 4}, 1, []int{1}, 10 + 40},
	{"half of all calls at the lower end", []int{0, 10, 20}, []int{4, 3, 1}, 1, []int{0}, 30 + 20},
	{"half of all calls at the upper end", []int{0, 10, 20}, []int{1, 2, 3}, 1, []int{1}, 10 + 30},
	{"MaxOften at all of MaxFloors floors, one car", []int{0, 10, 20, 25, 30, 40, 50, 60}, slices.Repeat([]int{20}, 8), 1, []int{3}, 20 * (25 + 15 + 5 + 5 + 15 + 25 + 35)},
	{"MaxOften at all of MaxFloors floors, two cars", []int{0, 5, 10, 15, 20, 25, 30, 35}, slices.Repeat([]int{20}, 8), 2, []int{1, 5}, 20 * 2 * (5 + 5 + 10)},
	{"MaxOften at all of MaxFloors floors, seven cars", []int{0, 5, 10, 15, 20, 25, 30, 35}, slices.Repeat([]int{20}, 8), 7, []int{0, 1, 2, 3, 4, 5, 6}, 20 * 5},
	{"MaxOften at all of MaxFloors floors, eight cars", []int{0, 5, 10, 15, 20, 25, 30, 35}, slices.Repeat([]int{20}, 8), 8, []int{0, 1, 2, 3, 4, 5, 6, 7}, 0},
	{"MaxOften at all of MaxFloors floors, nine cars", []int{0, 5, 10, 15, 20, 25, 30, 35}, slices.Repeat([]int{20}, 8), 9, []int{0, 1, 2, 3, 4, 5, 6, 7}, 0},
	{"MaxOften at every other floor, four cars", []int{0, 5, 10, 15, 20, 25, 30, 35}, []int{0, 20, 0, 20, 0, 20, 0, 20}, 4, []int{1, 3, 5, 7}, 0},
	{"MaxOften at every other floor, eight cars", []int{0, 5, 10, 15, 20, 25, 30, 35}, []int{0, 20, 0, 20, 0, 20, 0, 20}, 8, []int{1, 3, 5, 7}, 0},
	{"the one call that is far away", []int{0, 1, 2, 60}, []int{20, 0, 0, 1}, 1, []int{0}, 60},
	{"many calls that are near, and few that are far", []int{0, 1, 2, 60}, []int{20, 20, 20, 1}, 2, []int{1, 3}, 40},
}

func TestWaitConstants(t *testing.T) {
	if impl.MaxOften != 20 {
		t.Errorf("MaxOften = %d", impl.MaxOften)
	}
}

func TestWaitingPlacesByHand(t *testing.T) {
	for _, c := range waitsByHand {
		if !impl.OftenOk(c.floors, c.often) {
			t.Errorf("%s: OftenOk(%v, %v) = false", c.why, c.floors, c.often)
		}
		if places := impl.WaitPlaces(c.floors, c.often, c.cars); !slices.Equal(places, c.places) {
			t.Errorf("%s: WaitPlaces(%v, %v, %d) = %v, not %v", c.why, c.floors, c.often, c.cars, places, c.places)
		}
		if cost := impl.WaitLeast(c.floors, c.often, c.cars); cost != c.cost {
			t.Errorf("%s: WaitLeast(%v, %v, %d) = %d, not %d", c.why, c.floors, c.often, c.cars, cost, c.cost)
		}
		if cost := impl.WaitCost(c.floors, c.often, c.places); cost != c.cost {
			t.Errorf("%s: WaitCost(%v, %v, %v) = %d, not %d", c.why, c.floors, c.often, c.places, cost, c.cost)
		}
	}
}

func TestWaitCostByHand(t *testing.T) {
	floors, often := []int{0, 4, 9, 12}, []int{5, 1, 2, 3}
	for _, c := range []struct {
		floors, often, places []int
		cost                  int
	}{
		{[]int{0}, []int{20}, []int{0}, 0},
		{[]int{0}, []int{20}, []int{0, 0, 0, 0, 0, 0, 0, 0}, 0},
		{[]int{0, 60}, []int{20, 20}, []int{1}, 20 * 60},
		{[]int{0, 60}, []int{0, 20}, []int{1}, 0},
		{[]int{0, 60}, []int{0, 20}, []int{0}, 20 * 60},
		{[]int{0, 60}, []int{0, 0}, []int{0}, 0},
		{floors, often, []int{0}, 4 + 18 + 36},
		{floors, often, []int{1}, 20 + 10 + 24},
		{floors, often, []int{2}, 45 + 5 + 9},
		{floors, often, []int{3}, 60 + 8 + 6},
		{floors, often, []int{3, 3}, 60 + 8 + 6},
		{floors, often, []int{3, 3, 3, 3, 3, 3, 3, 3}, 60 + 8 + 6},
		{floors, often, []int{0, 3}, 4 + 6},
		{floors, often, []int{3, 0}, 4 + 6},
		{floors, often, []int{3, 0, 3, 3, 0}, 4 + 6},
		{floors, often, []int{1, 2}, 20 + 9},
		{floors, often, []int{2, 0, 3}, 4},
		{floors, often, []int{3, 2, 1, 0}, 0},
		{floors, often, []int{0, 1, 2, 3, 3, 2, 1, 0}, 0},
		{floors, make([]int, 4), []int{2}, 0},
		{[]int{0, 10, 20, 30, 40, 50, 55, 60}, slices.Repeat([]int{20}, 8), []int{0}, 20 * 265},
		{[]int{0, 53, 54, 55, 56, 57, 58, 60}, slices.Repeat([]int{20}, 8), []int{0}, 20 * 393},
	} {
		if got := impl.WaitCost(c.floors, c.often, c.places); got != c.cost {
			t.Errorf("WaitCost(%v, %v, %v) = %d, not %d", c.floors, c.often, c.places, got, c.cost)
		}
	}
}

func TestOftenIsANumberForEachFloor(t *testing.T) {
	for _, floors := range slices.Concat(someFloors(), waitBuildings()) {
		for many := range impl.MaxFloors + 3 {
			for _, often := range []int{-1, 0, 1, 19, 20, 21} {
				want := many == len(floors) && often >= 0 && often <= 20
				if got := impl.OftenOk(floors, slices.Repeat([]int{often}, many)); got != want {
					t.Fatalf("OftenOk is %v for %v and %d times %d", got, floors, many, often)
				}
			}
		}
	}
}

func TestWaitCostIsThatOfTheDocument(t *testing.T) {
	everyOften(func(floors, often []int) {
		for _, places := range somePlaces(floors) {
			if got, want := impl.WaitCost(floors, often, places), wantCost(floors, often, places); got != want {
				t.Fatalf("WaitCost(%v, %v, %v) = %d, not %d", floors, often, places, got, want)
			}
		}
	})
}

// sameWaiting checks the best places and what they cost against those that are found by looking at all.
func sameWaiting(t *testing.T, floors, often []int, cars int) {
	t.Helper()
	want := wantPlaces(floors, often, cars)
	if got := impl.WaitPlaces(floors, often, cars); !slices.Equal(got, want) {
		t.Fatalf("WaitPlaces(%v, %v, %d) = %v, not %v", floors, often, cars, got, want)
	}
	if got, cost := impl.WaitLeast(floors, often, cars), wantCost(floors, often, want); got != cost {
		t.Fatalf("WaitLeast(%v, %v, %d) = %d, not %d", floors, often, cars, got, cost)
	}
}

func TestWaitPlacesAreThoseOfTheDocument(t *testing.T) {
	everyOften(func(floors, often []int) {
		for _, cars := range manyCars {
			sameWaiting(t, floors, often, cars)
		}
	})
}

func TestPlacesThatCostTheSameAreThoseOfTheDocument(t *testing.T) {
	for _, floors := range [][]int{{0, 1, 2, 3}, {0, 1, 2, 3, 4}, {0, 2, 4, 6, 9}, {0, 1, 30, 31, 60}} {
		for _, often := range listsOf(len(floors), []int{0, 1, 2}) {
			for cars := range len(floors) {
				sameWaiting(t, floors, often, cars+1)
			}
		}
	}
}

func TestP20NoPlacesAreBetterThanTheBestOnes(t *testing.T) {
	everyOften(func(floors, often []int) {
		var least []int
		for cars := range impl.MaxFloors + 1 {
			least = append(least, impl.WaitLeast(floors, often, cars))
		}
		for _, places := range somePlaces(floors) {
			cost := impl.WaitCost(floors, often, places)
			if best := least[len(places)]; best < 0 || cost < best {
				t.Fatalf("WaitCost(%v, %v, %v) = %d, but WaitLeast is %d", floors, often, places, cost, best)
			}
		}
	})
}

func TestP20WithOnePlaceMoreItCostsAsMuchOrLess(t *testing.T) {
	for _, floors := range waitBuildings() {
		for i, often := range oftenOf(len(floors)) {
			for _, places := range somePlaces(floors) {
				if len(places) == impl.MaxFloors {
					continue
				}
				cost := impl.WaitCost(floors, often, places)
				for floor := range floors {
					more := slices.Insert(slices.Clone(places), i%(len(places)+1), floor)
					if got := impl.WaitCost(floors, often, more); got < 0 || got > cost {
						t.Fatalf("WaitCost(%v, %v, %v) = %d, but %d for %v", floors, often, more, got, cost, places)
					}
				}
			}
		}
	}
}

func TestP20WithACarAtEveryFloorItCostsNothing(t *testing.T) {
	everyOften(func(floors, often []int) {
		all := everyNumber(len(floors))
		for _, places := range [][]int{all, turnedRound(all), slices.Concat(all, make([]int, impl.MaxFloors-len(all)))} {
			if cost := impl.WaitCost(floors, often, places); cost != 0 {
				t.Fatalf("WaitCost(%v, %v, %v) = %d", floors, often, places, cost)
			}
		}
	})
}

func TestP89EveryFloorHasItsNumber(t *testing.T) {
	everyOften(func(floors, often []int) {
		if !impl.OftenOk(floors, often) {
			t.Fatalf("OftenOk(%v, %v) = false", floors, often)
		}
		for _, n := range []int{0, 1, impl.MaxOften} {
			for place := range len(often) + 1 {
				waitRefused(t, floors, slices.Insert(slices.Clone(often), place, n))
			}
		}
	})
}

func TestP90ThereAreAtMostAsManyPlacesAsCarsAndOneAtLeast(t *testing.T) {
	everyOften(func(floors, often []int) {
		for _, cars := range manyCars {
			places := impl.WaitPlaces(floors, often, cars)
			if len(places) < 1 || len(places) > cars || len(places) > len(floors) {
				t.Fatalf("WaitPlaces(%v, %v, %d) = %v", floors, often, cars, places)
			}
			for i, place := range places {
				if place < 0 || place >= len(floors) || i > 0 && place <= places[i-1] {
					t.Fatalf("WaitPlaces(%v, %v, %d) = %v, which are not floors in order", floors, often, cars, places)
				}
			}
		}
	})
}

func TestP90NoSingleCarCouldWaitBetterAtAnotherFloor(t *testing.T) {
	everyOften(func(floors, often []int) {
		for _, cars := range manyCars {
			places := impl.WaitPlaces(floors, often, cars)
			least := impl.WaitLeast(floors, often, cars)
			if cost := impl.WaitCost(floors, often, places); cost != least || cost < 0 {
				t.Fatalf("WaitLeast(%v, %v, %d) = %d, but %v costs %d", floors, often, cars, least, places, cost)
			}
			for i := range places {
				for floor := range floors {
					other := slices.Clone(places)
					other[i] = floor
					if cost := impl.WaitCost(floors, often, other); cost < least {
						t.Fatalf("WaitPlaces(%v, %v, %d) = %v costs %d, but %v costs %d", floors, often, cars, places, least, other, cost)
					}
				}
			}
		}
	})
}

func TestP91MoreCarsNeverCostMore(t *testing.T) {
	everyOften(func(floors, often []int) {
		before := math.MaxInt
		for cars := 1; cars <= impl.MaxFloors+3; cars++ {
			least := impl.WaitLeast(floors, often, cars)
			if least < 0 || least > before || cars >= len(floors) && least != 0 {
				t.Fatalf("WaitLeast(%v, %v, %d) = %d behind %d", floors, often, cars, least, before)
			}
			before = least
		}
		if least := impl.WaitLeast(floors, often, math.MaxInt); least != 0 {
			t.Fatalf("WaitLeast(%v, %v) = %d for as many cars as can be told", floors, often, least)
		}
	})
}

// waitRefused checks that floors and numbers do not tell how often there are calls, wherever cars wait and however many there are.
func waitRefused(t *testing.T, floors, often []int) {
	t.Helper()
	if impl.OftenOk(floors, often) {
		t.Fatalf("OftenOk(%v, %v)", floors, often)
	}
	for _, places := range [][]int{nil, {0}, {1}, {0, 1}, {0, 0, 0}, everyNumber(len(floors)), everyNumber(8), make([]int, 9)} {
		placesRefused(t, floors, often, places)
	}
	for _, cars := range []int{-1, 0, 1, 2, 3, 8, 9} {
		carsRefused(t, floors, often, cars)
	}
}

// placesRefused checks that there is no cost for some places.
func placesRefused(t *testing.T, floors, often, places []int) {
	t.Helper()
	if cost := impl.WaitCost(floors, often, places); cost != -1 {
		t.Fatalf("WaitCost(%v, %v, %v) = %d", floors, often, places, cost)
	}
}

// carsRefused checks that there are no best places for so many cars.
func carsRefused(t *testing.T, floors, often []int, cars int) {
	t.Helper()
	if places := impl.WaitPlaces(floors, often, cars); len(places) != 0 {
		t.Fatalf("WaitPlaces(%v, %v, %d) = %v", floors, often, cars, places)
	}
	if cost := impl.WaitLeast(floors, often, cars); cost != -1 {
		t.Fatalf("WaitLeast(%v, %v, %d) = %d", floors, often, cars, cost)
	}
}

func TestWaitingAtFloorsThatAreNotValid(t *testing.T) {
	for _, floors := range badFloors() {
		waitRefused(t, floors, make([]int, len(floors)))
		waitRefused(t, floors, slices.Repeat([]int{20}, len(floors)))
		waitRefused(t, floors, everyNumber(len(floors)))
		waitRefused(t, floors, nil)
		waitRefused(t, floors, []int{1})
	}
}

func TestWaitingWithTooFewOrTooManyNumbers(t *testing.T) {
	for _, floors := range waitBuildings() {
		for many := range impl.MaxFloors + 3 {
			if many != len(floors) {
				waitRefused(t, floors, make([]int, many))
				waitRefused(t, floors, slices.Repeat([]int{20}, many))
				waitRefused(t, floors, everyNumber(many))
			}
		}
		waitRefused(t, floors, nil)
	}
}

func TestWaitingWithNumbersThatAreNone(t *testing.T) {
	for _, none := range badOften {
		for _, floors := range waitBuildings() {
			for place := range floors {
				for _, others := range []int{0, 1, 20} {
					often := slices.Repeat([]int{others}, len(floors))
					often[place] = none
					waitRefused(t, floors, often)
				}
			}
		}
	}
}

func TestWaitingAtNoPlacesOrTooMany(t *testing.T) {
	everyOften(func(floors, often []int) {
		placesRefused(t, floors, often, nil)
		placesRefused(t, floors, often, []int{})
		for _, many := range []int{9, 10, 16, 24, 100} {
			placesRefused(t, floors, often, make([]int, many))
			placesRefused(t, floors, often, slices.Repeat([]int{len(floors) - 1}, many))
			placesRefused(t, floors, often, mixedFloors(floors, many, 3))
		}
	})
}

func TestWaitingAtNoFloor(t *testing.T) {
	for _, floors := range waitBuildings() {
		often := mixedFloors(everyNumber(impl.MaxOften+1), len(floors), 2)
		for _, none := range noFloors(floors) {
			for others := range impl.MaxFloors {
				for place := range others + 1 {
					placesRefused(t, floors, often, slices.Insert(make([]int, others), place, none))
					placesRefused(t, floors, often, slices.Insert(mixedFloors(floors, others, 4), place, none))
				}
			}
		}
	}
}

func TestWaitingWithoutCars(t *testing.T) {
	everyOften(func(floors, often []int) {
		for _, cars := range []int{math.MinInt, math.MinInt + 1, -8, -2, -1, 0} {
			carsRefused(t, floors, often, cars)
		}
	})
}

func TestWaitingWritesToNothing(t *testing.T) {
	check := func(lists ...[]int) {
		var wholes, given, before [][]int
		for _, list := range lists {
			whole, part := withSpareRoom(list)
			wholes, given, before = append(wholes, whole), append(given, part), append(before, slices.Clone(whole))
		}
		impl.OftenOk(given[0], given[1])
		impl.WaitCost(given[0], given[1], given[2])
		for cars := range 5 {
			impl.WaitPlaces(given[0], given[1], cars)
			impl.WaitLeast(given[0], given[1], cars)
		}
		for i, whole := range wholes {
			if !slices.Equal(whole, before[i]) {
				t.Fatalf("%v became %v", before[i], whole)
			}
		}
	}
	for _, floors := range goodAndBadFloors() {
		for _, often := range [][]int{nil, {0}, {20, 3}, {5, 1, 2, 3}, make([]int, len(floors)), slices.Repeat([]int{7}, len(floors)), slices.Repeat([]int{21}, len(floors))} {
			for _, places := range [][]int{nil, {0}, {2, 0}, {-1, 8}, {3, 2, 1, 1, 0}, turnedRound(everyNumber(len(floors))), make([]int, 9)} {
				check(floors, often, places)
			}
		}
	}
}

func TestWaitingPlacesShareNoMemory(t *testing.T) {
	everyOften(func(floors, often []int) {
		for _, cars := range []int{1, 2, 8} {
			floorsWhole, floorsGiven := withSpareRoom(floors)
			oftenWhole, oftenGiven := withSpareRoom(often)
			before := slices.Concat(floorsWhole, oftenWhole)
			first := impl.WaitPlaces(floorsGiven, oftenGiven, cars)
			second := impl.WaitPlaces(floorsGiven, oftenGiven, cars)
			want := slices.Clone(second)
			first = first[:cap(first)]
			for i := range first {
				first[i] = -7
			}
			if !slices.Equal(slices.Concat(floorsWhole, oftenWhole), before) {
				t.Fatalf("WaitPlaces(%v, %v, %d) shares memory with an argument", floors, often, cars)
			}
			if third := impl.WaitPlaces(floorsGiven, oftenGiven, cars); !slices.Equal(second, want) || !slices.Equal(third, want) {
				t.Fatalf("WaitPlaces(%v, %v, %d) shares memory with another result", floors, often, cars)
			}
		}
	})
}
