package tests

import (
	"math"
	"math/big"
	"slices"
	"testing"

	"loop.example/elevators/impl"
)

// badWires holds numbers of broken wires that no place has, on both sides.
var badWires = []int{math.MinInt, math.MinInt + 1, -10, -9, -2, -1, 10, 11, 19, 100, math.MaxInt - 1, math.MaxInt}

// badPulls holds pulls that are none, on both sides, with some whose products wrap around.
var badPulls = []int{math.MinInt, math.MinInt + 1, -1 << 32, -200, -100, -1, 0, 201, 202, 400, 1 << 32, 1 << 61, 1 << 62, math.MaxInt - 1, math.MaxInt}

// badCars holds weights that no car has for MostLoad, on both sides, with some that are still pulls.
var badCars = []int{math.MinInt, math.MinInt + 1, -200, -60, -41, -40, -21, -20, -19, -10, -1, 0, 161, 162, 170, 179, 180, 181, 200, 201, 400, math.MaxInt - 40, math.MaxInt - 20, math.MaxInt}

// somePulls holds the least and the greatest pulls, and some in between with and without common divisors.
var somePulls = []int{1, 2, 3, 4, 5, 7, 8, 12, 49, 50, 66, 80, 97, 99, 100, 101, 120, 150, 180, 197, 199, 200}

// bumpyRope returns a rope of so many places with all numbers of broken wires.
func bumpyRope(places, from int) []int {
	rope := make([]int, places)
	for i := range rope {
		rope[i] = (7*(i+from)*(i+from) + 3*i) % 10
	}
	return rope
}

// everyRope calls f for all ropes of up to three places, all longer ones of a few with few kinds of places, and ropes of each length that are worst at each place.
func everyRope(f func(rope []int)) {
	for places := range 4 {
		for _, rope := range listsOf(places, everyNumber(10)) {
			f(rope)
		}
	}
	for places := 4; places <= 7; places++ {
		for _, rope := range listsOf(places, []int{0, 1, 9}) {
			f(rope)
		}
	}
	for places := 4; places <= impl.MaxPlaces; places++ {
		for at := range places {
			f(bumpyRope(places, at))
			for wide := 1; wide <= 5; wide++ {
				for _, others := range []int{0, 2} {
					f(worstAt(places, at, wide, others))
				}
			}
		}
	}
}

// worstAt returns a rope of so many places of which some, from one on, have the most broken wires that a place can have.
func worstAt(places, at, wide, others int) []int {
	rope := slices.Repeat([]int{others}, places)
	for i := at; i < min(at+wide, places); i++ {
		rope[i] = 9
	}
	return rope
}

// badRopes returns ropes of which one place is none, and those of too many places.
func badRopes() [][]int {
	list := [][]int{make([]int, 25), make([]int, 26), make([]int, 1000), slices.Repeat([]int{9}, 25), slices.Repeat([]int{1}, 28), bumpyRope(25, 0)}
	list = append(list, []int{-1, 10}, []int{10, -10}, []int{5, -5, 5, -5, 5}, []int{math.MaxInt, math.MaxInt, 2}, []int{math.MinInt, math.MinInt}, []int{-1, -1, -1, -1, -1})
	for _, wires := range badWires {
		for _, places := range []int{1, 2, 3, 4, 5, 6, 9, 23, 24} {
			for at := range places {
				for _, rope := range [][]int{make([]int, places), bumpyRope(places, at), slices.Repeat([]int{9}, places)} {
					rope[at] = wires
					list = append(list, rope)
				}
			}
		}
	}
	return list
}

// windowsOf returns the sums of all windows of a rope, or of all of it if it is shorter than one.
func windowsOf(rope []int) []int {
	if len(rope) < 4 {
		return []int{sumOf(rope)}
	}
	var sums []int
	for from := 0; from+4 <= len(rope); from++ {
		sums = append(sums, sumOf(rope[from:from+4]))
	}
	return sums
}

// sumOf returns the sum of numbers.
func sumOf(numbers []int) int {
	sum := 0
	for _, n := range numbers {
		sum += n
	}
	return sum
}

// turnedRound returns the same rope, looked at from its other end.
func turnedRound(rope []int) []int {
	turned := slices.Clone(rope)
	slices.Reverse(turned)
	return turned
}

// everyQuotient calls f for all valid tops and bottoms.
func everyQuotient(f func(top, bottom int)) {
	for bottom := 1; bottom <= impl.MaxPull; bottom++ {
		for top := bottom; top <= impl.MaxPull; top++ {
			f(top, bottom)
		}
	}
}

// somePullsAndQuotients calls f for all pulls with some quotients, and for some pulls with all quotients.
func somePullsAndQuotients(f func(one, two, top, bottom int)) {
	for _, bottom := range somePulls {
		for _, top := range somePulls {
			if top < bottom {
				continue
			}
			for one := 1; one <= impl.MaxPull; one++ {
				for two := 1; two <= impl.MaxPull; two++ {
					f(one, two, top, bottom)
				}
			}
		}
	}
	for _, one := range somePulls {
		for _, two := range somePulls {
			everyQuotient(func(top, bottom int) { f(one, two, top, bottom) })
		}
	}
}

// greatestSafe returns with what load a car does not slip, by the quotient: with a lesser one than half of MaxLoad the counterweight pulls more, with a greater one the car.
func greatestSafe(car, top, bottom int) int {
	other := car + 20
	if other*bottom > car*top {
		return -1
	}
	return min(other*top/bottom-car, 40)
}

func TestRopeConstants(t *testing.T) {
	if impl.LayLength != 4 || impl.MaxPlaces != 24 || impl.MaxPull != 200 {
		t.Errorf("LayLength = %d, MaxPlaces = %d, MaxPull = %d", impl.LayLength, impl.MaxPlaces, impl.MaxPull)
	}
}

func TestRopesByHand(t *testing.T) {
	tests := []struct {
		rope  []int
		worst int
	}{
		{nil, 0}, {[]int{}, 0}, // a rope without places
		{[]int{0}, 0}, {[]int{9}, 9}, {[]int{4}, 4}, {[]int{3, 3}, 6}, {[]int{0, 7}, 7}, {[]int{7, 0}, 7}, {[]int{9, 9, 9}, 27}, {[]int{2, 0, 5}, 7}, // shorter than LayLength
		{[]int{1, 2, 3, 4}, 10}, {[]int{0, 0, 0, 0}, 0}, {[]int{9, 9, 9, 9}, 36}, // exactly LayLength places
		{[]int{1, 2, 3, 4, 0}, 10}, {[]int{1, 2, 3, 4, 1}, 10}, {[]int{1, 2, 3, 4, 2}, 11}, {[]int{9, 9, 9, 9, 9}, 36}, {[]int{0, 9, 9, 9, 9}, 36}, {[]int{9, 0, 0, 0, 9}, 9}, // and one more
		{[]int{1, 0, 3, 2, 0, 4}, 9}, {[]int{5, 5, 5, 5, 0, 0, 0, 0, 0}, 20}, {[]int{0, 0, 5, 5, 5, 5, 0, 0}, 20}, {[]int{0, 0, 0, 0, 5, 5, 5, 5}, 20}, // the worst places at the beginning, in the middle and at the end
		{[]int{8, 0, 0, 0, 8, 0, 0, 0, 8}, 8}, {[]int{3, 3, 3, 0, 0, 9, 1, 0, 0, 3}, 12}, {[]int{9, 0, 0, 9, 0, 0, 9}, 18},
		{make([]int, 24), 0}, {slices.Repeat([]int{9}, 24), 36}, {append(make([]int, 20), 1, 2, 3, 4), 10}, {append([]int{1, 2, 3, 4}, make([]int, 20)...), 10}, {append(make([]int, 23), 9), 9}, // of MaxPlaces places
	}
	for _, x := range tests {
		if valid, worst := impl.RopeValid(x.rope), impl.WorstLay(x.rope); !valid || worst != x.worst {
			t.Errorf("%v: RopeValid %v, WorstLay %d, not %d", x.rope, valid, worst, x.worst)
		}
		if !impl.Discard(x.rope, x.worst-1) || impl.Discard(x.rope, x.worst) || impl.Discard(x.rope, x.worst+1) {
			t.Errorf("Discard(%v) does not pass from true to false at %d", x.rope, x.worst)
		}
	}
}

func TestRopesThatAreNotValid(t *testing.T) {
	for _, rope := range badRopes() {
		if valid, worst := impl.RopeValid(rope), impl.WorstLay(rope); valid || worst != -1 {
			t.Fatalf("%v: RopeValid %v, WorstLay %d", rope, valid, worst)
		}
		for _, most := range []int{math.MinInt, -100, -2, -1, 0, 1, 8, 35, 36, 37, math.MaxInt} {
			if impl.Discard(rope, most) {
				t.Fatalf("Discard(%v, %d)", rope, most)
			}
		}
	}
}

func TestP66RopesMayBeCut(t *testing.T) {
	everyRope(func(rope []int) {
		for from := range len(rope) + 1 {
			if !impl.RopeValid(rope[from:]) {
				t.Fatalf("%v without its first %d places is not valid", rope, from)
			}
		}
	})
}

func TestP66WithTenBrokenWiresInAPlaceARopeIsNotValid(t *testing.T) {
	everyRope(func(rope []int) {
		for at := range rope {
			worse := slices.Clone(rope)
			worse[at] = 10
			if impl.RopeValid(worse) || impl.WorstLay(worse) != -1 || impl.Discard(worse, 0) {
				t.Fatalf("%v: RopeValid %v, WorstLay %d", worse, impl.RopeValid(worse), impl.WorstLay(worse))
			}
		}
	})
}

func TestRopesHaveMaxPlacesAtMost(t *testing.T) {
	for places := range 100 {
		for wires := range 10 {
			rope := slices.Repeat([]int{wires}, places)
			if got := impl.RopeValid(rope); got != (places <= 24) {
				t.Fatalf("RopeValid of %d places with %d broken wires: %v", places, wires, got)
			}
		}
	}
}

func TestP67NoWindowIsWorse(t *testing.T) {
	everyRope(func(rope []int) {
		worst, windows := impl.WorstLay(rope), windowsOf(rope)
		for from, sum := range windows {
			if sum > worst {
				t.Fatalf("WorstLay(%v) = %d, but from the place %d on there are %d", rope, worst, from, sum)
			}
		}
		if !slices.Contains(windows, worst) {
			t.Fatalf("WorstLay(%v) = %d, and no places have so many", rope, worst)
		}
	})
}

func TestP67ABeginningOfARopeIsNoWorse(t *testing.T) {
	everyRope(func(rope []int) {
		worst := impl.WorstLay(rope)
		for places := range rope {
			if beginning := impl.WorstLay(rope[:places]); beginning < 0 || beginning > worst {
				t.Fatalf("WorstLay(%v) = %d, but of its first %d places %d", rope, worst, places, beginning)
			}
		}
	})
}

func TestP67TurnedRoundTheRopeIsAsBad(t *testing.T) {
	everyRope(func(rope []int) {
		if one, other := impl.WorstLay(rope), impl.WorstLay(turnedRound(rope)); one != other {
			t.Fatalf("WorstLay(%v) = %d, and turned round %d", rope, one, other)
		}
	})
}

func TestP68WithOneMoreBrokenWireARopeStaysDiscarded(t *testing.T) {
	everyRope(func(rope []int) {
		for at := range rope {
			if rope[at] == 9 {
				continue
			}
			worse := slices.Clone(rope)
			worse[at]++
			for most := -1; most <= 37; most++ {
				if impl.Discard(rope, most) && !impl.Discard(worse, most) {
					t.Fatalf("%v is discarded for %d, but %v is not", rope, most, worse)
				}
			}
		}
	})
}

func TestP68WithAGreaterBoundARopeIsNotDiscardedIfItWasNot(t *testing.T) {
	bounds := slices.Concat([]int{math.MinInt, -100, -2}, numbersFrom(-1, 37), []int{100, math.MaxInt})
	everyRope(func(rope []int) {
		worst := windowsOf(rope)
		for i, most := range bounds {
			got := impl.Discard(rope, most)
			if got && i > 0 && !impl.Discard(rope, bounds[i-1]) {
				t.Fatalf("%v is discarded for %d, but not for %d", rope, most, bounds[i-1])
			}
			if got != (slices.Max(worst) > most) {
				t.Fatalf("Discard(%v, %d) = %v", rope, most, got)
			}
		}
	})
}

func TestHoldsByHand(t *testing.T) {
	tests := []struct {
		one, two, top, bottom int
		want                  bool
	}{
		{100, 80, 5, 4, true}, {80, 100, 5, 4, true}, {99, 80, 5, 4, true}, {100, 79, 5, 4, false}, {101, 80, 5, 4, false}, {80, 101, 5, 4, false}, // exactly top/bottom and just above it
		{100, 81, 5, 4, true}, {4, 3, 4, 3, true}, {4, 3, 133, 100, false}, {4, 3, 134, 100, true}, {3, 2, 199, 133, false}, {3, 2, 199, 132, true},
		{100, 80, 4, 5, false}, {100, 100, 4, 5, false}, {1, 1, 1, 2, false}, {1, 1, 199, 200, false}, // top less than bottom
		{1, 1, 1, 1, true}, {200, 200, 1, 1, true}, {7, 7, 200, 200, true}, {50, 50, 9, 3, true}, // equal pulls
		{1, 2, 1, 1, false}, {200, 199, 200, 200, false}, {199, 200, 7, 7, false}, {2, 1, 3, 3, false}, // top equal to bottom
		{1, 200, 200, 1, true}, {200, 1, 200, 1, true}, {200, 1, 199, 1, false}, {1, 200, 200, 2, false}, {199, 1, 199, 1, true}, {199, 1, 200, 1, true}, {2, 1, 200, 199, false}, {2, 1, 200, 100, true}, {200, 199, 200, 199, true}, {199, 198, 200, 199, false},
	}
	for _, x := range tests {
		if got := impl.Holds(x.one, x.two, x.top, x.bottom); got != x.want {
			t.Errorf("Holds(%d, %d, %d, %d) = %v", x.one, x.two, x.top, x.bottom, got)
		}
	}
}

func TestHoldsComparesFractions(t *testing.T) {
	for _, one := range somePulls {
		for _, two := range somePulls {
			pulls := big.NewRat(int64(max(one, two)), int64(min(one, two)))
			for _, bottom := range somePulls {
				for top := bottom; top <= impl.MaxPull; top++ {
					want := pulls.Cmp(big.NewRat(int64(top), int64(bottom))) <= 0
					if got := impl.Holds(one, two, top, bottom); got != want {
						t.Fatalf("Holds(%d, %d, %d, %d) = %v", one, two, top, bottom, got)
					}
				}
			}
		}
	}
}

func TestP69WhatSlipsHasNoDirection(t *testing.T) {
	somePullsAndQuotients(func(one, two, top, bottom int) {
		if impl.Holds(one, two, top, bottom) != impl.Holds(two, one, top, bottom) {
			t.Fatalf("Holds(%d, %d, %d, %d) = %v, and not for both exchanged", one, two, top, bottom, impl.Holds(one, two, top, bottom))
		}
	})
}

func TestP69EqualPullsHold(t *testing.T) {
	everyQuotient(func(top, bottom int) {
		for pull := 1; pull <= impl.MaxPull; pull++ {
			if !impl.Holds(pull, pull, top, bottom) {
				t.Fatalf("Holds(%d, %d, %d, %d) = false", pull, pull, top, bottom)
			}
		}
	})
}

func TestP69WithAGreaterQuotientARopeThatHoldsDoes(t *testing.T) {
	somePullsAndQuotients(func(one, two, top, bottom int) {
		if !impl.Holds(one, two, top, bottom) {
			return
		}
		if top < impl.MaxPull && !impl.Holds(one, two, top+1, bottom) {
			t.Fatalf("%d and %d hold with %d/%d, but not with %d/%d", one, two, top, bottom, top+1, bottom)
		}
		if bottom > 1 && !impl.Holds(one, two, top, bottom-1) {
			t.Fatalf("%d and %d hold with %d/%d, but not with %d/%d", one, two, top, bottom, top, bottom-1)
		}
	})
}

func TestP69OfTwoQuotientsTheGreaterOneHolds(t *testing.T) {
	for _, one := range somePulls {
		for _, two := range []int{1, 7, 80, 100, 199, 200} {
			// The least quotient with which these pulls hold is that of the pulls themselves.
			top, bottom := max(one, two), min(one, two)
			everyQuotient(func(otherTop, otherBottom int) {
				if want := otherTop*bottom >= top*otherBottom; impl.Holds(one, two, otherTop, otherBottom) != want {
					t.Fatalf("Holds(%d, %d, %d, %d) = %v", one, two, otherTop, otherBottom, !want)
				}
			})
		}
	}
}

func TestHoldsWithTopLessThanBottom(t *testing.T) {
	for bottom := 2; bottom <= impl.MaxPull; bottom++ {
		for top := 1; top < bottom; top++ {
			for _, pull := range somePulls {
				if impl.Holds(pull, pull, top, bottom) || impl.Holds(pull, 1, top, bottom) || impl.Holds(1, pull, top, bottom) {
					t.Fatalf("%d holds with %d/%d", pull, top, bottom)
				}
				if got := impl.MostLoad(min(pull, 160), top, bottom); got != -1 {
					t.Fatalf("MostLoad(%d, %d, %d) = %d", min(pull, 160), top, bottom, got)
				}
			}
		}
	}
}

func TestHoldsWithArgumentsOutOfRange(t *testing.T) {
	good := []int{1, 2, 100, 199, 200}
	for _, bad := range badPulls {
		for place := range 4 {
			for _, others := range listsOf(3, slices.Concat(good, []int{bad})) {
				x := slices.Insert(others, place, bad)
				if impl.Holds(x[0], x[1], x[2], x[3]) {
					t.Fatalf("Holds(%d, %d, %d, %d) = true", x[0], x[1], x[2], x[3])
				}
			}
		}
	}
	for _, x := range listsOf(4, badPulls) {
		if impl.Holds(x[0], x[1], x[2], x[3]) {
			t.Fatalf("Holds(%d, %d, %d, %d) = true", x[0], x[1], x[2], x[3])
		}
	}
}

func TestMostLoadByHand(t *testing.T) {
	tests := []struct{ car, top, bottom, want int }{
		{80, 5, 4, 40}, {40, 3, 2, 40}, {40, 11, 10, -1},
		{100, 6, 5, 40}, {100, 12, 10, 40}, {100, 119, 100, -1}, {100, 120, 100, 40}, {101, 119, 100, -1}, {106, 119, 100, 40}, {105, 119, 100, -1}, // a car that slips with no load, and one that just does not
		{20, 2, 1, 40}, {20, 199, 100, -1}, {19, 2, 1, -1}, {21, 2, 1, 40}, {40, 149, 100, -1}, {40, 150, 100, 40}, {60, 4, 3, 40}, {59, 4, 3, -1}, {160, 9, 8, 40}, {159, 9, 8, -1},
		{1, 21, 1, 40}, {1, 20, 1, -1}, {1, 200, 1, 40}, {1, 200, 10, -1}, {1, 199, 10, -1}, {2, 11, 1, 40}, {2, 10, 1, -1}, // weights at both ends
		{160, 200, 1, 40}, {160, 10, 9, -1}, {160, 112, 100, -1}, {160, 113, 100, 40}, {160, 180, 160, 40}, {160, 179, 160, -1},
		{1, 1, 1, -1}, {80, 7, 7, -1}, {160, 200, 200, -1}, // top equal to bottom
		{80, 4, 5, -1}, {160, 1, 200, -1},
	}
	for _, x := range tests {
		if got := impl.MostLoad(x.car, x.top, x.bottom); got != x.want {
			t.Errorf("MostLoad(%d, %d, %d) = %d, not %d", x.car, x.top, x.bottom, got, x.want)
		}
	}
}

func TestMostLoadIsThatOfTheQuotient(t *testing.T) {
	for car := 1; car <= impl.MaxPull-impl.MaxLoad; car++ {
		everyQuotient(func(top, bottom int) {
			if got, want := impl.MostLoad(car, top, bottom), greatestSafe(car, top, bottom); got != want {
				t.Fatalf("MostLoad(%d, %d, %d) = %d, not %d", car, top, bottom, got, want)
			}
		})
	}
}

func TestP70NoGreaterLoadIsSafe(t *testing.T) {
	for car := 1; car <= impl.MaxPull-impl.MaxLoad; car++ {
		for _, bottom := range somePulls {
			for top := bottom; top <= impl.MaxPull; top++ {
				most := impl.MostLoad(car, top, bottom)
				if most < -1 || most > impl.MaxLoad {
					t.Fatalf("MostLoad(%d, %d, %d) = %d", car, top, bottom, most)
				}
				for load := 0; load <= most; load++ {
					if !impl.Holds(car+load, car+20, top, bottom) {
						t.Fatalf("MostLoad(%d, %d, %d) = %d, but with %d it slips", car, top, bottom, most, load)
					}
				}
				if next := most + 1; next <= impl.MaxLoad && impl.Holds(car+next, car+20, top, bottom) {
					t.Fatalf("MostLoad(%d, %d, %d) = %d, but with %d it holds", car, top, bottom, most, next)
				}
			}
		}
	}
}

func TestMostLoadWithArgumentsOutOfRange(t *testing.T) {
	for _, car := range badCars {
		for _, bottom := range somePulls {
			for _, top := range somePulls {
				if got := impl.MostLoad(car, top, bottom); got != -1 {
					t.Fatalf("MostLoad(%d, %d, %d) = %d", car, top, bottom, got)
				}
			}
		}
	}
	for car := 1; car <= 160; car++ {
		for _, bad := range badPulls {
			for _, other := range slices.Concat(somePulls, badPulls) {
				if one, two := impl.MostLoad(car, bad, other), impl.MostLoad(car, other, bad); one != -1 || two != -1 {
					t.Fatalf("MostLoad(%d, %d, %d) = %d, and exchanged %d", car, bad, other, one, two)
				}
			}
		}
	}
}

func TestRopesAreNotWrittenTo(t *testing.T) {
	whole := slices.Concat(bumpyRope(30, 0), []int{10, -1, 3, 9, 9, 9, 9, 0})
	before := slices.Clone(whole)
	for from := range whole {
		for to := from; to <= len(whole); to++ {
			// Behind the end there is spare room, which is not to be written to either.
			rope := whole[from:to]
			impl.RopeValid(rope)
			impl.WorstLay(rope)
			impl.Discard(rope, to)
			if !slices.Equal(whole, before) {
				t.Fatalf("%v became %v", before, whole)
			}
		}
	}
}
