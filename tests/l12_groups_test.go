package tests

import (
	"math"
	"slices"
	"testing"

	"loop.example/elevators/impl"
)

// mixedFloors returns so many floors of a building, spread over it in a way that differs from turn to turn, and some of them more than once.
func mixedFloors(floors []int, many, turn int) []int {
	var list []int
	for i := range many {
		list = append(list, (turn*(2*i+3)+i*i*(turn%3+1)+turn/5)%len(floors))
	}
	return list
}

// groupsUpTo calls f for all groups of so many cars and calls at most in a building.
func groupsUpTo(floors []int, cars, calls int, f func(floors, cars, calls []int)) {
	for someCars := 1; someCars <= cars; someCars++ {
		for _, at := range listsOf(someCars, everyNumber(len(floors))) {
			for someCalls := range calls + 1 {
				for _, asked := range listsOf(someCalls, everyNumber(len(floors))) {
					f(floors, at, asked)
				}
			}
		}
	}
}

// mixedGroups calls f for groups of all numbers of cars and calls in a building, a few of each.
func mixedGroups(floors []int, f func(floors, cars, calls []int)) {
	for cars := 1; cars <= impl.MaxCars; cars++ {
		for calls := range impl.MaxAsked + 1 {
			for turn := range 12 {
				f(floors, mixedFloors(floors, cars, turn), mixedFloors(floors, calls, 5*turn+2))
			}
		}
	}
}

// everyGroup calls f for all groups in buildings of one and two floors, for the smaller ones of three and four floors, and for some of all sizes in higher buildings.
func everyGroup(f func(floors, cars, calls []int)) {
	groupsUpTo([]int{0}, impl.MaxCars, impl.MaxAsked, f)
	groupsUpTo([]int{0, 1}, impl.MaxCars, impl.MaxAsked, f)
	groupsUpTo([]int{0, 4, 9}, 3, 3, f)
	groupsUpTo([]int{0, 5, 10}, 2, 4, f)
	groupsUpTo([]int{0, 7, 59, 60}, 2, 3, f)
	for _, floors := range append(highBuildings, []int{0, 4, 9, 12, 20}, []int{0, 5, 10, 15, 20, 25}) {
		mixedGroups(floors, f)
	}
}

// everyGive calls f for all groups and all lists that tell a car for each call.
func everyGive(f func(floors, cars, calls, give []int)) {
	everyGroup(func(floors, cars, calls []int) {
		for _, give := range listsOf(len(calls), everyNumber(len(cars))) {
			f(floors, cars, calls, give)
		}
	})
}

// wantLongest looks for the greatest way among those of all cars to all calls that are theirs.
func wantLongest(floors, cars, calls, give []int) int {
	longest := 0
	for car, at := range cars {
		for i, call := range calls {
			if give[i] == car {
				longest = max(longest, distance(floors[at], floors[call]))
			}
		}
	}
	return longest
}

// wantSum adds the shortest ways of all cars.
func wantSum(floors, cars, calls, give []int) int {
	sum := 0
	for car, at := range cars {
		var visits []int
		for i, call := range calls {
			if give[i] == car {
				visits = append(visits, call)
			}
		}
		sum += shortestWay(floors, at, visits)
	}
	return sum
}

// wantBest gives the calls in all ways, one call after the other, and returns the least list of those with the least sum.
func wantBest(floors, cars, calls []int) []int {
	var best []int
	give := make([]int, len(calls))
	var put func(place int)
	put = func(place int) {
		if place < len(calls) {
			// The last car first, so that the order in which lists are tried does not decide.
			for car := len(cars) - 1; car >= 0; car-- {
				give[place] = car
				put(place + 1)
			}
			return
		}
		sum, least := wantSum(floors, cars, calls, give), math.MaxInt
		if best != nil {
			least = wantSum(floors, cars, calls, best)
		}
		if sum < least || sum == least && slices.Compare(give, best) < 0 {
			best = slices.Clone(give)
		}
	}
	put(0)
	return best
}

// wantNear looks for each call through the cars from the nearest one to the farthest one, and from the first one to the last one.
func wantNear(floors, cars, calls []int) []int {
	var near []int
	for _, call := range calls {
		for way := range impl.MaxStep + 1 {
			car := slices.IndexFunc(cars, func(at int) bool { return distance(floors[at], floors[call]) == way })
			if car >= 0 {
				near = append(near, car)
				break
			}
		}
	}
	return near
}

// groupsByHand holds groups with all that the document names, and how their calls are given.
var groupsByHand = []struct {
	why     string
	floors  []int
	cars    []int
	calls   []int
	best    []int
	sum     int
	near    []int
	longest int
}{
	{"no calls", []int{0, 4, 9, 12, 20}, []int{0, 4}, nil, nil, 0, nil, 0},
	{"no calls, one car", []int{0, 4, 9, 12, 20}, []int{3}, nil, nil, 0, nil, 0},
	{"one car", []int{0, 4, 9, 12, 20}, []int{2}, []int{4, 1, 3}, []int{0, 0, 0}, 21, []int{0, 0, 0}, 11},
	{"one call", []int{0, 4, 9, 12, 20}, []int{0, 4, 2}, []int{3}, []int{2}, 3, []int{2}, 3},
	{"a call at the floor of a car", []int{0, 4, 9, 12, 20}, []int{0, 4, 2}, []int{4}, []int{1}, 0, []int{1}, 0},
	{"calls at the floors of all cars", []int{0, 4, 9, 12, 20}, []int{3, 0, 2}, []int{0, 2, 3}, []int{1, 2, 0}, 0, []int{1, 2, 0}, 0},
	{"a call at the floor of two cars", []int{0, 4, 9, 12, 20}, []int{0, 4, 2, 4}, []int{4}, []int{1}, 0, []int{1}, 0},
	{"all cars at one floor", []int{0, 4, 9, 12, 20}, []int{2, 2, 2, 2}, []int{4}, []int{0}, 11, []int{0}, 11},
	{"all cars at one floor, calls on both sides", []int{0, 4, 9, 12, 20}, []int{2, 2}, []int{0, 4}, []int{0, 1}, 20, []int{0, 0}, 11},
	{"all cars at one floor, calls on both sides, the highest first", []int{0, 4, 9, 12, 20}, []int{2, 2, 2}, []int{4, 0, 3, 1}, []int{0, 1, 0, 1}, 20, []int{0, 0, 0, 0}, 11},
	{"more calls than cars", []int{0, 4, 9, 12, 20}, []int{0, 4}, []int{1, 3, 2}, []int{0, 0, 0}, 12, []int{0, 1, 0}, 9},
	{"more calls than cars, both needed", []int{0, 4, 9, 30, 34}, []int{4, 0}, []int{1, 3, 2}, []int{1, 0, 1}, 13, []int{1, 0, 1}, 9},
	{"several calls at one floor", []int{0, 4, 9, 12, 20}, []int{0, 4}, []int{3, 3, 3}, []int{1, 1, 1}, 8, []int{1, 1, 1}, 8},
	{"several calls at one floor, as near", []int{0, 5, 10, 15, 20}, []int{0, 4}, []int{2, 2}, []int{0, 0}, 10, []int{0, 0}, 10},
	{"several calls at two floors", []int{0, 4, 9, 12, 20}, []int{4, 0}, []int{3, 1, 3, 1, 3}, []int{0, 1, 0, 1, 0}, 12, []int{0, 1, 0, 1, 0}, 8},
	{"as near to both cars", []int{0, 5, 10}, []int{0, 2}, []int{1}, []int{0}, 5, []int{0}, 5},
	{"as near to both cars, exchanged", []int{0, 5, 10}, []int{2, 0}, []int{1}, []int{0}, 5, []int{0}, 5},
	{"nearer by a step to the second car", []int{0, 5, 9}, []int{0, 2}, []int{1}, []int{1}, 4, []int{1}, 4},
	{"as near to the last two cars", []int{0, 5, 10, 40}, []int{3, 2, 0}, []int{1}, []int{1}, 5, []int{1}, 5},
	{"four lists with the same sum", []int{0, 5, 10, 15, 20}, []int{0, 4}, []int{2, 1, 3}, []int{0, 0, 0}, 15, []int{0, 0, 1}, 10},
	{"the same sum, the lesser car at the first difference", []int{0, 5, 10, 15, 20}, []int{2, 0, 4}, []int{1, 3}, []int{0, 2}, 10, []int{0, 0}, 5},
	{"the same sum, the first call at a car", []int{0, 5, 10, 15, 20}, []int{0, 4, 4}, []int{4, 2}, []int{1, 0}, 10, []int{1, 0}, 10},
	{"a car on the way takes all", []int{0, 4, 9, 12, 20}, []int{0, 4}, []int{4, 3, 2, 1}, []int{1, 0, 0, 0}, 12, []int{1, 1, 0, 0}, 9},
	{"not the nearest car", []int{0, 10, 19, 30}, []int{0, 3}, []int{1, 2}, []int{0, 0}, 19, []int{0, 1}, 11},
	{"cars that get no calls", []int{0, 4, 9, 12, 20}, []int{4, 0, 3, 1}, []int{2, 2}, []int{2, 2}, 3, []int{2, 2}, 3},
	{"one floor", []int{0}, []int{0}, []int{0}, []int{0}, 0, []int{0}, 0},
	{"one floor, all cars and calls", []int{0}, []int{0, 0, 0, 0}, []int{0, 0, 0, 0, 0}, []int{0, 0, 0, 0, 0}, 0, []int{0, 0, 0, 0, 0}, 0},
	{"MaxFloors floors, MaxCars cars, MaxAsked calls", []int{0, 4, 9, 15, 16, 30, 45, 60}, []int{0, 7, 3, 3}, []int{1, 6, 4, 2, 5}, []int{0, 1, 2, 0, 2}, 39, []int{0, 1, 2, 2, 2}, 15},
	{"MaxFloors floors, the farthest call", []int{0, 4, 9, 15, 16, 30, 45, 60}, []int{7, 7, 7, 7}, []int{0, 0, 0, 0, 0}, []int{0, 0, 0, 0, 0}, 60, []int{0, 0, 0, 0, 0}, 60},
	{"MaxFloors floors, the last car", []int{0, 4, 9, 15, 16, 30, 45, 60}, []int{7, 7, 7, 0}, []int{1, 2, 3, 4, 0}, []int{3, 3, 3, 3, 3}, 16, []int{3, 3, 3, 3, 3}, 16},
}

func TestGroupConstants(t *testing.T) {
	if impl.MaxCars != 4 || impl.MaxAsked != 5 {
		t.Errorf("MaxCars = %d, MaxAsked = %d", impl.MaxCars, impl.MaxAsked)
	}
}

func TestGroupsByHand(t *testing.T) {
	for _, c := range groupsByHand {
		if !impl.GroupOk(c.floors, c.cars, c.calls) {
			t.Errorf("%s: it is no group", c.why)
		}
		best := impl.GroupBest(c.floors, c.cars, c.calls)
		if !slices.Equal(best, c.best) {
			t.Errorf("%s: GroupBest(%v, %v, %v) = %v, not %v", c.why, c.floors, c.cars, c.calls, best, c.best)
		}
		if sum := impl.GroupSum(c.floors, c.cars, c.calls, c.best); sum != c.sum {
			t.Errorf("%s: the best sum is %d, not %d", c.why, sum, c.sum)
		}
		near := impl.GroupNear(c.floors, c.cars, c.calls)
		if !slices.Equal(near, c.near) {
			t.Errorf("%s: GroupNear(%v, %v, %v) = %v, not %v", c.why, c.floors, c.cars, c.calls, near, c.near)
		}
		if longest := impl.GroupLongest(c.floors, c.cars, c.calls, c.near); longest != c.longest {
			t.Errorf("%s: the longest way of the near ones is %d, not %d", c.why, longest, c.longest)
		}
	}
}

func TestGivenCallsByHand(t *testing.T) {
	floors := []int{0, 4, 9, 12, 20}
	for _, c := range []struct {
		cars, calls, give []int
		longest, sum      int
	}{
		{[]int{0}, nil, nil, 0, 0},
		{[]int{4, 4, 0, 1}, []int{}, []int{}, 0, 0},
		{[]int{2}, []int{2}, []int{0}, 0, 0},
		{[]int{2}, []int{0}, []int{0}, 9, 9},
		{[]int{2}, []int{0, 4}, []int{0, 0}, 11, 29},
		{[]int{2}, []int{4, 2, 0, 2, 4}, []int{0, 0, 0, 0, 0}, 11, 29},
		{[]int{2}, []int{3, 0}, []int{0, 0}, 9, 15},
		{[]int{2, 2}, []int{0, 4}, []int{0, 1}, 11, 20},
		{[]int{2, 2}, []int{0, 4}, []int{1, 0}, 11, 20},
		{[]int{0, 4}, []int{1, 3, 2}, []int{0, 1, 0}, 9, 17},
		{[]int{0, 4}, []int{1, 3, 2}, []int{0, 1, 1}, 11, 15},
		{[]int{0, 4}, []int{1, 3, 2}, []int{0, 0, 0}, 12, 12},
		{[]int{0, 4}, []int{1, 3, 2}, []int{1, 0, 0}, 16, 28},
		{[]int{0, 4}, []int{4, 0}, []int{0, 1}, 20, 40},
		{[]int{0, 4}, []int{4, 0}, []int{1, 0}, 0, 0},
		{[]int{0, 4}, []int{3, 3}, []int{0, 1}, 12, 20},
		{[]int{0, 4}, []int{3, 3}, []int{1, 1}, 8, 8},
		{[]int{1, 1, 1, 1}, []int{3, 0, 3, 0, 4}, []int{0, 1, 2, 3, 0}, 16, 16 + 4 + 8 + 4},
		{[]int{1, 1, 1, 1}, []int{3, 0, 3, 0, 4}, []int{3, 3, 3, 3, 3}, 16, 24},
	} {
		if got := impl.GroupLongest(floors, c.cars, c.calls, c.give); got != c.longest {
			t.Errorf("GroupLongest(%v, %v, %v, %v) = %d, not %d", floors, c.cars, c.calls, c.give, got, c.longest)
		}
		if got := impl.GroupSum(floors, c.cars, c.calls, c.give); got != c.sum {
			t.Errorf("GroupSum(%v, %v, %v, %v) = %d, not %d", floors, c.cars, c.calls, c.give, got, c.sum)
		}
	}
}

// groupIsFloors checks that what is a group depends on how many cars and calls there are, and on whether they are at floors.
func groupIsFloors(t *testing.T, floors, cars, calls []int) {
	t.Helper()
	none := func(floor int) bool { return !slices.Contains(everyNumber(len(floors)), floor) }
	want := slices.Contains([]int{1, 2, 3, 4}, len(cars)) && len(calls) < 6 && !slices.ContainsFunc(cars, none) && !slices.ContainsFunc(calls, none)
	if got := impl.GroupOk(floors, cars, calls); got != want {
		t.Fatalf("GroupOk(%v, %v, %v) = %v", floors, cars, calls, got)
	}
}

func TestGroupsAreCarsAndCallsAtFloors(t *testing.T) {
	for _, floors := range tourFloors {
		some := numbersFrom(-1, len(floors))
		for many := range 8 {
			for _, list := range listsOf(many, slices.Compact([]int{-1, 0, len(floors) - 1, len(floors)})) {
				for few := range 3 {
					for _, other := range listsOf(few, some) {
						groupIsFloors(t, floors, list, other)
						groupIsFloors(t, floors, other, list)
					}
				}
			}
		}
	}
	for _, floors := range highBuildings {
		for many := range 8 {
			for others := range 8 {
				groupIsFloors(t, floors, mixedFloors(floors, many, others), mixedFloors(floors, others, many))
			}
		}
	}
}

func TestP82WithoutCallsItIsAGroup(t *testing.T) {
	everyGroup(func(floors, cars, calls []int) {
		if !impl.GroupOk(floors, cars, calls) || !impl.GroupOk(floors, cars, nil) || !impl.GroupOk(floors, cars, []int{}) {
			t.Fatalf("cars %v in %v are no group with or without the calls %v", cars, floors, calls)
		}
		if best, near := impl.GroupBest(floors, cars, nil), impl.GroupNear(floors, cars, nil); len(best) != 0 || len(near) != 0 {
			t.Fatalf("cars %v in %v without calls: %v, %v", cars, floors, best, near)
		}
		if longest, sum := impl.GroupLongest(floors, cars, nil, nil), impl.GroupSum(floors, cars, nil, nil); longest != 0 || sum != 0 {
			t.Fatalf("cars %v in %v without calls: %d, %d", cars, floors, longest, sum)
		}
	})
}

func TestP82WithoutCarsItIsNoGroup(t *testing.T) {
	everyGroup(func(floors, _, calls []int) {
		for _, cars := range [][]int{nil, {}} {
			groupRefused(t, floors, cars, calls)
			giveRefused(t, floors, cars, calls, make([]int, len(calls)))
		}
	})
}

func TestGroupLongestIsThatOfTheDocument(t *testing.T) {
	everyGive(func(floors, cars, calls, give []int) {
		if got, want := impl.GroupLongest(floors, cars, calls, give), wantLongest(floors, cars, calls, give); got != want {
			t.Fatalf("GroupLongest(%v, %v, %v, %v) = %d, not %d", floors, cars, calls, give, got, want)
		}
	})
}

func TestGroupSumIsThatOfTheDocument(t *testing.T) {
	everyGive(func(floors, cars, calls, give []int) {
		if got, want := impl.GroupSum(floors, cars, calls, give), wantSum(floors, cars, calls, give); got != want {
			t.Fatalf("GroupSum(%v, %v, %v, %v) = %d, not %d", floors, cars, calls, give, got, want)
		}
	})
}

func TestGroupBestIsThatOfTheDocument(t *testing.T) {
	everyGroup(func(floors, cars, calls []int) {
		if got, want := impl.GroupBest(floors, cars, calls), wantBest(floors, cars, calls); !slices.Equal(got, want) {
			t.Fatalf("GroupBest(%v, %v, %v) = %v, not %v", floors, cars, calls, got, want)
		}
	})
}

func TestGroupNearIsThatOfTheDocument(t *testing.T) {
	everyGroup(func(floors, cars, calls []int) {
		if got, want := impl.GroupNear(floors, cars, calls), wantNear(floors, cars, calls); !slices.Equal(got, want) {
			t.Fatalf("GroupNear(%v, %v, %v) = %v, not %v", floors, cars, calls, got, want)
		}
	})
}

func TestP17NoCallIsNearerToAnotherCar(t *testing.T) {
	everyGroup(func(floors, cars, calls []int) {
		near := impl.GroupNear(floors, cars, calls)
		if len(near) != len(calls) {
			t.Fatalf("GroupNear(%v, %v, %v) = %v", floors, cars, calls, near)
		}
		for i, call := range calls {
			way := impl.FloorWay(floors, cars[near[i]], call)
			for other, at := range cars {
				if impl.FloorWay(floors, at, call) < way {
					t.Fatalf("GroupNear(%v, %v, %v) = %v, but the call at %d is nearer to the car %d", floors, cars, calls, near, call, other)
				}
			}
		}
	})
}

func TestP17TheLongestWayIsAtLeastThatOfTheNearCars(t *testing.T) {
	everyGroup(func(floors, cars, calls []int) {
		near := impl.GroupNear(floors, cars, calls)
		least := impl.GroupLongest(floors, cars, calls, near)
		for _, give := range listsOf(len(calls), everyNumber(len(cars))) {
			if longest := impl.GroupLongest(floors, cars, calls, give); least < 0 || longest < least {
				t.Fatalf("in %v with cars %v and calls %v the longest way is %d for %v, but %d for %v", floors, cars, calls, least, near, longest, give)
			}
		}
	})
}

func TestP17TheLongestWayIsThatFromACarToACall(t *testing.T) {
	everyGive(func(floors, cars, calls, give []int) {
		var ways []int
		for i, call := range calls {
			ways = append(ways, impl.FloorWay(floors, cars[give[i]], call))
		}
		longest := impl.GroupLongest(floors, cars, calls, give)
		if len(calls) == 0 {
			ways = append(ways, 0)
		}
		if !slices.Contains(ways, longest) || slices.Max(ways) != longest {
			t.Fatalf("GroupLongest(%v, %v, %v, %v) = %d of %v", floors, cars, calls, give, longest, ways)
		}
	})
}

func TestP18NoWayToGiveCallsIsShorterThanTheBestOne(t *testing.T) {
	everyGroup(func(floors, cars, calls []int) {
		best := impl.GroupBest(floors, cars, calls)
		least := impl.GroupSum(floors, cars, calls, best)
		for _, give := range listsOf(len(calls), everyNumber(len(cars))) {
			if sum := impl.GroupSum(floors, cars, calls, give); least < 0 || sum < least {
				t.Fatalf("in %v with cars %v and calls %v the sum is %d for %v, but %d for %v", floors, cars, calls, least, best, sum, give)
			}
		}
	})
}

func TestP18TheSumIsAtLeastTheLongestWay(t *testing.T) {
	everyGive(func(floors, cars, calls, give []int) {
		sum, longest := impl.GroupSum(floors, cars, calls, give), impl.GroupLongest(floors, cars, calls, give)
		if longest < 0 || sum < longest {
			t.Fatalf("in %v with cars %v and calls %v the sum of %v is %d, but the longest way %d", floors, cars, calls, give, sum, longest)
		}
	})
}

func TestP83AFurtherCarNeverMakesWaysLonger(t *testing.T) {
	everyGroup(func(floors, cars, calls []int) {
		if len(cars) == impl.MaxCars {
			return
		}
		least := impl.GroupSum(floors, cars, calls, impl.GroupBest(floors, cars, calls))
		for place := range len(cars) + 1 {
			more := slices.Insert(slices.Clone(cars), place, 0)
			best := impl.GroupBest(floors, more, calls)
			if sum := impl.GroupSum(floors, more, calls, best); sum < 0 || sum > least {
				t.Fatalf("in %v with calls %v the sum is %d with cars %v, but %d with %v", floors, calls, least, cars, sum, more)
			}
		}
	})
}

func TestP83EveryCallIsGiven(t *testing.T) {
	everyGroup(func(floors, cars, calls []int) {
		best := impl.GroupBest(floors, cars, calls)
		for _, car := range best {
			if car < 0 || car >= len(cars) {
				t.Fatalf("GroupBest(%v, %v, %v) = %v", floors, cars, calls, best)
			}
		}
		if len(best) != len(calls) {
			t.Fatalf("GroupBest(%v, %v, %v) = %v", floors, cars, calls, best)
		}
	})
}

func TestP84NearCarsAreNear(t *testing.T) {
	everyGroup(func(floors, cars, calls []int) {
		near := impl.GroupNear(floors, cars, calls)
		if len(near) != len(calls) {
			t.Fatalf("GroupNear(%v, %v, %v) = %v", floors, cars, calls, near)
		}
		for i, call := range calls {
			way := distance(floors[cars[near[i]]], floors[call])
			for other, at := range cars {
				if another := distance(floors[at], floors[call]); another < way || another == way && other < near[i] {
					t.Fatalf("GroupNear(%v, %v, %v) = %v, but the call at %d is as near to the car %d", floors, cars, calls, near, call, other)
				}
			}
		}
	})
}

// groupRefused checks that cars and calls are no group.
func groupRefused(t *testing.T, floors, cars, calls []int) {
	t.Helper()
	if impl.GroupOk(floors, cars, calls) {
		t.Fatalf("GroupOk(%v, %v, %v)", floors, cars, calls)
	}
	if best := impl.GroupBest(floors, cars, calls); len(best) != 0 {
		t.Fatalf("GroupBest(%v, %v, %v) = %v", floors, cars, calls, best)
	}
	if near := impl.GroupNear(floors, cars, calls); len(near) != 0 {
		t.Fatalf("GroupNear(%v, %v, %v) = %v", floors, cars, calls, near)
	}
}

// giveRefused checks that a list does not tell the cars for the calls of a group.
func giveRefused(t *testing.T, floors, cars, calls, give []int) {
	t.Helper()
	if longest := impl.GroupLongest(floors, cars, calls, give); longest != -1 {
		t.Fatalf("GroupLongest(%v, %v, %v, %v) = %d", floors, cars, calls, give, longest)
	}
	if sum := impl.GroupSum(floors, cars, calls, give); sum != -1 {
		t.Fatalf("GroupSum(%v, %v, %v, %v) = %d", floors, cars, calls, give, sum)
	}
}

// allRefused checks that cars and calls are no group, whatever list is there for the calls.
func allRefused(t *testing.T, floors, cars, calls []int) {
	t.Helper()
	groupRefused(t, floors, cars, calls)
	for many := range impl.MaxAsked + 3 {
		giveRefused(t, floors, cars, calls, make([]int, many))
	}
}

func TestGroupsInFloorsThatAreNotValid(t *testing.T) {
	for why, floors := range badFloors() {
		t.Run(why, func(t *testing.T) {
			for _, cars := range [][]int{nil, {0}, {1}, {0, 1}, {0, 0, 0, 0}} {
				for _, calls := range [][]int{nil, {}, {0}, {1}, {1, 0}, {0, 0, 0, 0, 0}} {
					allRefused(t, floors, cars, calls)
				}
			}
		})
	}
}

func TestGroupsWithTooManyOrTooFewCars(t *testing.T) {
	for _, floors := range slices.Concat(tourFloors, highBuildings) {
		for _, many := range []int{0, 5, 6, 7, 8, 100} {
			for calls := range impl.MaxAsked + 1 {
				allRefused(t, floors, make([]int, many), make([]int, calls))
				allRefused(t, floors, mixedFloors(floors, many, 3), mixedFloors(floors, calls, 4))
			}
		}
	}
}

func TestGroupsWithTooManyCalls(t *testing.T) {
	for _, floors := range slices.Concat(tourFloors, highBuildings) {
		for _, many := range []int{6, 7, 8, 9, 100} {
			for cars := 1; cars <= impl.MaxCars; cars++ {
				at, calls := mixedFloors(floors, cars, 3), mixedFloors(floors, many, 4)
				allRefused(t, floors, at, calls)
				giveRefused(t, floors, at, calls, make([]int, many))
				allRefused(t, floors, at, make([]int, many))
			}
		}
	}
}

func TestGroupsWithCarsOrCallsAtNoFloor(t *testing.T) {
	for _, floors := range slices.Concat(tourFloors, highBuildings) {
		mixedGroups(floors, func(floors, cars, calls []int) {
			for _, none := range noFloors(floors) {
				for place := range cars {
					bad := slices.Clone(cars)
					bad[place] = none
					groupRefused(t, floors, bad, calls)
					giveRefused(t, floors, bad, calls, make([]int, len(calls)))
				}
				for place := range calls {
					bad := slices.Clone(calls)
					bad[place] = none
					groupRefused(t, floors, cars, bad)
					giveRefused(t, floors, cars, bad, make([]int, len(calls)))
				}
			}
		})
	}
}

func TestListsForTooFewOrTooManyCalls(t *testing.T) {
	everyGroup(func(floors, cars, calls []int) {
		for many := range impl.MaxAsked + 3 {
			if many != len(calls) {
				giveRefused(t, floors, cars, calls, make([]int, many))
				giveRefused(t, floors, cars, calls, slices.Repeat([]int{len(cars) - 1}, many))
			}
		}
	})
}

func TestListsWithACarThatThereIsNot(t *testing.T) {
	for _, floors := range slices.Concat(tourFloors, highBuildings) {
		mixedGroups(floors, func(floors, cars, calls []int) {
			for _, none := range []int{math.MinInt, -2, -1, len(cars), len(cars) + 1, 5, impl.MaxStep, math.MaxInt} {
				for place := range calls {
					give := make([]int, len(calls))
					give[place] = none
					giveRefused(t, floors, cars, calls, give)
				}
				giveRefused(t, floors, cars, calls, append(make([]int, len(calls)), none))
			}
		})
	}
}

// withSpareRoom returns a list with two more numbers behind its end, and the list.
func withSpareRoom(list []int) (whole, given []int) {
	whole = append(slices.Clone(list), 88, 89)
	return whole, whole[:len(list)]
}

func TestGroupsWriteToNothing(t *testing.T) {
	check := func(floors, cars, calls, give []int) {
		lists := [][]int{floors, cars, calls, give}
		var wholes, given, before [][]int
		for _, list := range lists {
			whole, part := withSpareRoom(list)
			wholes, given, before = append(wholes, whole), append(given, part), append(before, slices.Clone(whole))
		}
		impl.GroupOk(given[0], given[1], given[2])
		impl.GroupLongest(given[0], given[1], given[2], given[3])
		impl.GroupSum(given[0], given[1], given[2], given[3])
		impl.GroupBest(given[0], given[1], given[2])
		impl.GroupNear(given[0], given[1], given[2])
		for i, whole := range wholes {
			if !slices.Equal(whole, before[i]) {
				t.Fatalf("%v became %v", before[i], whole)
			}
		}
	}
	for _, floors := range append(goodAndBadFloors(), highBuildings...) {
		for _, cars := range [][]int{nil, {0}, {1, 0}, {2, 1, 1, 0}, {-1}, {9}, {4, 3, 2, 1, 0}} {
			for _, calls := range [][]int{nil, {0}, {2, 1, 0}, {1, 1, 2, 1, 0}, {-1, 0}, {8, 2, 1}, {5, 4, 3, 2, 1, 0}} {
				check(floors, cars, calls, make([]int, len(calls)))
				check(floors, cars, calls, []int{1, 0, -1})
			}
		}
	}
}

func TestGivenCallsShareNoMemory(t *testing.T) {
	everyFunction := map[string]func(floors, cars, calls []int) []int{"GroupBest": impl.GroupBest, "GroupNear": impl.GroupNear}
	for name, give := range everyFunction {
		for _, floors := range highBuildings {
			mixedGroups(floors, func(floors, cars, calls []int) {
				floorsWhole, floorsGiven := withSpareRoom(floors)
				carsWhole, carsGiven := withSpareRoom(cars)
				callsWhole, callsGiven := withSpareRoom(calls)
				before := slices.Concat(floorsWhole, carsWhole, callsWhole)
				first := give(floorsGiven, carsGiven, callsGiven)
				second := give(floorsGiven, carsGiven, callsGiven)
				want := slices.Clone(second)
				first = first[:cap(first)]
				for i := range first {
					first[i] = -7
				}
				if !slices.Equal(slices.Concat(floorsWhole, carsWhole, callsWhole), before) {
					t.Fatalf("%s(%v, %v, %v) shares memory with an argument", name, floors, cars, calls)
				}
				if !slices.Equal(second, want) || !slices.Equal(give(floorsGiven, carsGiven, callsGiven), want) {
					t.Fatalf("%s(%v, %v, %v) shares memory with another result", name, floors, cars, calls)
				}
			})
		}
	}
}
