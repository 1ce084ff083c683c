package tests

import (
	"cmp"
	"math"
	"slices"
	"testing"

	"loop.example/elevators/impl"
)

// noStop is what there is if there is no next stop.
var noStop = impl.Stop{Floor: -1}

// up returns the stop at a floor from which the car goes on upward, and down the one from which it goes on downward.
func up(floor int) impl.Stop {
	return impl.Stop{Floor: floor, Dir: 1}
}

func down(floor int) impl.Stop {
	return impl.Stop{Floor: floor, Dir: -1}
}

// placesOf returns all places of a car in a building of so many floors.
func placesOf(floors int) []impl.Stop {
	var places []impl.Stop
	for floor := range floors {
		places = append(places, up(floor), down(floor))
	}
	return places
}

// badPlaces returns places that are none in a building of so many floors.
func badPlaces(floors int) []impl.Stop {
	var places []impl.Stop
	for _, floor := range []int{math.MinInt, -1 << 32, -floors, -2, -1, floors, floors + 1, impl.MaxFloors, impl.MaxFloors + 1, 1 << 32, math.MaxInt} {
		for _, dir := range []int{-2, -1, 0, 1, 2} {
			places = append(places, impl.Stop{Floor: floor, Dir: dir})
		}
	}
	for _, dir := range []int{math.MinInt, -1<<32 - 1, -1 << 32, -3, -2, 0, 2, 3, 1 << 32, 1<<32 + 1, math.MaxInt} {
		for floor := -1; floor <= floors; floor++ {
			places = append(places, impl.Stop{Floor: floor, Dir: dir})
		}
	}
	return places
}

// mixedCallsOf calls f for many valid calls of so many floors that follow no rule, always the same ones.
func mixedCallsOf(floors int, f func(c impl.Calls)) {
	bits := uint64(floors)
	for range 200 {
		for _, every := range []uint64{2, 4, 9} {
			f(callsFrom(floors, func(int) bool {
				bits = bits*6364136223846793005 + 1442695040888963407
				return bits>>40%every == 0
			}))
		}
	}
}

// pairsOfCalls calls f for all valid calls of so many floors of which there are two.
func pairsOfCalls(floors int, f func(c impl.Calls)) {
	for one := range 3*floors - 2 {
		for two := range one {
			f(callsFrom(floors, func(number int) bool { return number == one || number == two }))
		}
	}
}

// everyStand calls f for many valid calls, and for each of them with all places of a car.
func everyStand(f func(c impl.Calls, s impl.Stop)) {
	check := func(c impl.Calls) {
		for _, s := range placesOf(len(c.Up)) {
			f(c, s)
		}
	}
	everyCalls(check)
	for floors := fewFloors + 1; floors <= impl.MaxFloors; floors++ {
		pairsOfCalls(floors, check)
		mixedCallsOf(floors, check)
	}
}

// callsToGo returns the row of the calls to go in a direction.
func callsToGo(c impl.Calls, dir int) []bool {
	if dir > 0 {
		return c.Up
	}
	return c.Down
}

// callsOn tells whether a car that goes in a direction stops at a floor and goes on.
func callsOn(c impl.Calls, floor, dir int) bool {
	return c.Car[floor] || callsToGo(c, dir)[floor]
}

// wantNext returns the next stop by the sentence of the document: the parts of each direction are looked for one after the other.
func wantNext(c impl.Calls, s impl.Stop) impl.Stop {
	for _, dir := range []int{s.Dir, -s.Dir} {
		var ahead []int
		for floor := range c.Up {
			if (floor-s.Floor)*dir >= 0 {
				ahead = append(ahead, floor)
			}
		}
		slices.SortFunc(ahead, func(a, b int) int { return (a - b) * dir })
		if i := slices.IndexFunc(ahead, func(floor int) bool { return callsOn(c, floor, dir) }); i >= 0 {
			return impl.Stop{Floor: ahead[i], Dir: dir}
		}
		slices.Reverse(ahead)
		if i := slices.IndexFunc(ahead, func(floor int) bool { return callsToGo(c, -dir)[floor] }); i >= 0 {
			return impl.Stop{Floor: ahead[i], Dir: -dir}
		}
	}
	return noStop
}

// wantServed returns the calls that are left when a car stops.
func wantServed(c impl.Calls, s impl.Stop) impl.Calls {
	left := copyOfCalls(c)
	left.Car[s.Floor] = false
	callsToGo(left, s.Dir)[s.Floor] = false
	return left
}

func TestNextStopByHand(t *testing.T) {
	tests := []struct {
		why     string
		c       impl.Calls
		s, want impl.Stop
	}{
		{"one floor, upward", callsOf("0", "0", "1"), up(0), up(0)},
		{"one floor, downward", callsOf("0", "0", "1"), down(0), down(0)},
		{"one floor, no calls", callsOf("0", "0", "0"), up(0), noStop},
		{"no calls", callsOf("0000", "0000", "0000"), down(2), noStop},
		{"here in the direction", callsOf("0100", "0000", "0000"), up(1), up(1)},
		{"here in the other one", callsOf("0100", "0000", "0000"), down(1), up(1)},
		{"here in the direction, downward", callsOf("0000", "0100", "0000"), down(1), down(1)},
		{"here in the other one, upward", callsOf("0000", "0100", "0000"), up(1), down(1)},
		{"here from the car", callsOf("0000", "0000", "0100"), up(1), up(1)},
		{"here from the car, downward", callsOf("0000", "0000", "0100"), down(1), down(1)},
		{"here in both directions", callsOf("0100", "0100", "0000"), up(1), up(1)},
		{"here in both directions, downward", callsOf("0100", "0100", "0000"), down(1), down(1)},
		{"here, before others", callsOf("0010", "0001", "0111"), up(1), up(1)},
		{"here in the other one, and ahead", callsOf("0000", "0100", "0001"), up(1), up(3)},
		{"here in the other one, and ahead as well", callsOf("0000", "0101", "0000"), up(1), down(3)},
		{"here in the other one, and behind", callsOf("1000", "0100", "1000"), up(1), down(1)},
		{"here in the other one, and behind, upward", callsOf("0100", "0001", "0010"), down(1), up(1)},
		{"ahead", callsOf("0010", "0000", "0001"), up(0), up(2)},
		{"ahead from the car", callsOf("0010", "0000", "0101"), up(0), up(1)},
		{"ahead, downward", callsOf("0000", "0110", "1001"), down(3), down(3)},
		{"ahead, downward, not here", callsOf("0000", "0110", "1000"), down(3), down(2)},
		{"ahead in the direction behind one in the other", callsOf("0010", "0101", "0000"), up(0), up(2)},
		{"ahead, and behind nearer", callsOf("0100", "0010", "0101"), up(2), up(3)},
		{"ahead in the other direction, and behind nearer", callsOf("0100", "0001", "0100"), up(2), down(3)},
		{"ahead in the other direction, and behind nearer, downward", callsOf("1000", "0010", "0010"), down(1), up(0)},
		{"all ahead in the other direction", callsOf("0000", "0110", "0000"), up(0), down(2)},
		{"all ahead in the other direction, downward", callsOf("0110", "0000", "0000"), down(3), up(1)},
		{"behind from the car", callsOf("0000", "0000", "1100"), up(2), down(1)},
		{"behind from the car, upward", callsOf("0000", "0000", "0011"), down(1), up(2)},
		{"behind, the nearest one", callsOf("1000", "0110", "1000"), up(3), down(2)},
		{"behind, the farthest one", callsOf("1100", "0000", "0000"), up(2), up(0)},
		{"behind, the farthest one, downward", callsOf("0000", "0011", "0000"), down(0), down(3)},
		{"behind in both directions", callsOf("0110", "0100", "0000"), up(3), down(1)},
		{"behind in both directions, upward", callsOf("0010", "0111", "0000"), down(0), up(2)},
		{"the lowest floor, upward", callsOf("1110", "0111", "1111"), up(0), up(0)},
		{"the lowest floor, downward", callsOf("1110", "0111", "1111"), down(0), down(0)},
		{"the lowest floor, downward, without the car", callsOf("1110", "0111", "0000"), down(0), up(0)},
		{"the lowest floor, downward, nobody there", callsOf("0110", "0111", "0011"), down(0), up(1)},
		{"the highest floor, downward", callsOf("1110", "0111", "1111"), down(3), down(3)},
		{"the highest floor, upward", callsOf("1110", "0111", "1111"), up(3), up(3)},
		{"the highest floor, upward, without the car", callsOf("1110", "0111", "0000"), up(3), down(3)},
		{"the highest floor, upward, nobody there", callsOf("1110", "0110", "1100"), up(3), down(2)},
		{"eight floors", callsOf("10000000", "00000001", "00000000"), up(4), down(7)},
		{"eight floors, downward", callsOf("10000000", "00000001", "00000000"), down(4), up(0)},
		{"eight floors, from end to end", callsOf("00000000", "00000000", "00000001"), up(0), up(7)},
		{"eight floors, from end to end, downward", callsOf("00000000", "00000000", "10000000"), down(7), down(0)},
	}
	for _, x := range tests {
		if got := impl.NextStop(x.c, x.s); got != x.want {
			t.Errorf("%s: NextStop(%q, %v) = %v, not %v", x.why, textOf(x.c), x.s, got, x.want)
		}
	}
}

func TestServeStopByHand(t *testing.T) {
	c := callsOf("1110", "0111", "1111")
	tests := []struct {
		c    impl.Calls
		s    impl.Stop
		want impl.Calls
	}{
		{c, up(0), callsOf("0110", "0111", "0111")},
		{c, down(0), callsOf("1110", "0111", "0111")},
		{c, up(1), callsOf("1010", "0111", "1011")},
		{c, down(1), callsOf("1110", "0011", "1011")},
		{c, up(3), callsOf("1110", "0111", "1110")},
		{c, down(3), callsOf("1110", "0110", "1110")},
		{callsOf("0100", "0100", "1011"), up(1), callsOf("0000", "0100", "1011")},
		{callsOf("0100", "0100", "1011"), down(1), callsOf("0100", "0000", "1011")},
		{callsOf("0100", "0100", "1011"), up(2), callsOf("0100", "0100", "1001")},
		{callsOf("1010", "0101", "0000"), up(1), callsOf("1010", "0101", "0000")},
		{callsOf("0000", "0000", "0000"), up(1), callsOf("0000", "0000", "0000")},
		{callsOf("0", "0", "1"), up(0), callsOf("0", "0", "0")},
		{callsOf("0", "0", "1"), down(0), callsOf("0", "0", "0")},
		{callsOf("0", "0", "0"), down(0), callsOf("0", "0", "0")},
		{callsOf("11111110", "01111111", "11111111"), down(7), callsOf("11111110", "01111110", "11111110")},
		{callsOf("11111110", "01111111", "11111111"), up(6), callsOf("11111100", "01111111", "11111101")},
	}
	for _, x := range tests {
		if got := impl.ServeStop(x.c, x.s); !sameCalls(got, x.want) {
			t.Errorf("ServeStop(%q, %v) = %q, not %q", textOf(x.c), x.s, textOf(got), textOf(x.want))
		}
	}
}

func TestSweepStopsByHand(t *testing.T) {
	tests := []struct {
		c    impl.Calls
		s    impl.Stop
		want []impl.Stop
	}{
		{callsOf("0", "0", "0"), up(0), nil},
		{callsOf("0", "0", "1"), up(0), []impl.Stop{up(0)}},
		{callsOf("0", "0", "1"), down(0), []impl.Stop{down(0)}},
		{callsOf("0000", "0000", "0000"), down(2), nil},
		{callsOf("0100", "0100", "0100"), up(1), []impl.Stop{up(1), down(1)}},
		{callsOf("0100", "0100", "0100"), down(1), []impl.Stop{down(1), up(1)}},
		{callsOf("0110", "0000", "0000"), up(3), []impl.Stop{up(1), up(2)}},
		{callsOf("0000", "0110", "0000"), up(0), []impl.Stop{down(2), down(1)}},
		{callsOf("0000", "0000", "1101"), up(2), []impl.Stop{up(3), down(1), down(0)}},
		{callsOf("0000", "0000", "1101"), down(2), []impl.Stop{down(1), down(0), up(3)}},
		{callsOf("1000", "0000", "1000"), down(2), []impl.Stop{down(0), up(0)}},
		{callsOf("1110", "0111", "0000"), up(1), []impl.Stop{up(1), up(2), down(3), down(2), down(1), up(0)}},
		{callsOf("1110", "0111", "1111"), up(1), []impl.Stop{up(1), up(2), up(3), down(3), down(2), down(1), down(0), up(0)}},
		{callsOf("1110", "0111", "1111"), down(1), []impl.Stop{down(1), down(0), up(0), up(1), up(2), up(3), down(3), down(2)}},
		{callsOf("1110", "0111", "1111"), down(3), []impl.Stop{down(3), down(2), down(1), down(0), up(0), up(1), up(2)}},
		{callsOf("10000010", "01000001", "00011000"), up(4), []impl.Stop{up(4), up(6), down(7), down(3), down(1), up(0)}},
	}
	for _, x := range tests {
		if got := impl.SweepStops(x.c, x.s); !slices.Equal(got, x.want) {
			t.Errorf("SweepStops(%q, %v) = %v, not %v", textOf(x.c), x.s, got, x.want)
		}
	}
}

func TestNextStopIsThatOfTheDocument(t *testing.T) {
	everyStand(func(c impl.Calls, s impl.Stop) {
		if got, want := impl.NextStop(c, s), wantNext(c, s); got != want {
			t.Fatalf("NextStop(%q, %v) = %v, not %v", textOf(c), s, got, want)
		}
	})
}

func TestWithoutCallsThereIsNoStop(t *testing.T) {
	for floors := 1; floors <= impl.MaxFloors; floors++ {
		c := impl.CallsNone(floors)
		for _, s := range placesOf(floors) {
			if next := impl.NextStop(c, s); next != noStop {
				t.Errorf("%d floors, %v: the next stop is %v", floors, s, next)
			}
			if left := impl.ServeStop(c, s); !sameCalls(left, c) {
				t.Errorf("%d floors, %v: %v are left", floors, s, left)
			}
			if list := impl.SweepStops(c, s); len(list) != 0 {
				t.Errorf("%d floors, %v: the stops are %v", floors, s, list)
			}
		}
	}
}

func TestP10NoCallOnTheWayIsPassed(t *testing.T) {
	everyStand(func(c impl.Calls, s impl.Stop) {
		next := impl.NextStop(c, s)
		if impl.CallsMany(c) == 0 {
			return
		}
		way := cmp.Compare(next.Floor, s.Floor)
		for floor := s.Floor; floor != next.Floor; floor += way {
			if callsOn(c, floor, way) {
				t.Fatalf("%q: the car that is at %v stops at %v and passes %d", textOf(c), s, next, floor)
			}
		}
		if next.Dir != 1 && next.Dir != -1 || !callsOn(c, next.Floor, next.Dir) {
			t.Fatalf("%q: the car that is at %v stops at %v for nothing", textOf(c), s, next)
		}
		if left := impl.CallsMany(impl.ServeStop(c, next)); left < 0 || left >= impl.CallsMany(c) {
			t.Fatalf("%q: behind the stop %v there are %d calls", textOf(c), next, left)
		}
	})
}

func TestP10TheCarTurnsOnlyBehindTheLastCall(t *testing.T) {
	everyStand(func(c impl.Calls, s impl.Stop) {
		next := impl.NextStop(c, s)
		if next == noStop {
			return
		}
		reach := (next.Floor - s.Floor) * s.Dir
		if reach >= 0 && next.Dir == s.Dir {
			return
		}
		for floor := range c.Up {
			ahead := (floor - s.Floor) * s.Dir
			waits := callsOn(c, floor, 1) || callsOn(c, floor, -1)
			if waits && ahead >= 0 && ahead > reach {
				t.Fatalf("%q: the car that is at %v turns round for %v before it was at %d", textOf(c), s, next, floor)
			}
		}
	})
}

func TestP11InTheEndEveryCallIsServed(t *testing.T) {
	everyStand(func(c impl.Calls, s impl.Stop) {
		list := impl.SweepStops(c, s)
		left := c
		for i, stop := range list {
			before := s
			if i > 0 {
				before = list[i-1]
			}
			if next := impl.NextStop(left, before); next != stop {
				t.Fatalf("SweepStops(%q, %v) = %v: the stop behind %v is %v", textOf(c), s, list, before, next)
			}
			left = impl.ServeStop(left, stop)
		}
		if impl.CallsMany(left) != 0 {
			t.Fatalf("SweepStops(%q, %v) = %v: %q are left", textOf(c), s, list, textOf(left))
		}
		if len(list) > impl.CallsMany(c) {
			t.Fatalf("SweepStops(%q, %v) = %v: these are more than calls", textOf(c), s, list)
		}
	})
}

func TestP11TheCarTurnsRoundTwiceAtMost(t *testing.T) {
	everyStand(func(c impl.Calls, s impl.Stop) {
		list := impl.SweepStops(c, s)
		turns, place := 0, s
		// The car turns when it goes back to a stop, and also when it goes on from there in the other direction.
		for _, stop := range list {
			way := cmp.Compare(stop.Floor, place.Floor)
			if way != 0 && way != place.Dir {
				turns++
				place.Dir = way
			}
			if stop.Dir != place.Dir {
				turns++
			}
			place = stop
		}
		if turns > 2 {
			t.Fatalf("SweepStops(%q, %v) = %v: the car turns %d times", textOf(c), s, list, turns)
		}
	})
}

func TestSweepStopsAreThoseOfTheDocument(t *testing.T) {
	everyStand(func(c impl.Calls, s impl.Stop) {
		var want []impl.Stop
		left := copyOfCalls(c)
		for next := wantNext(left, s); next != noStop; next = wantNext(left, next) {
			want = append(want, next)
			left = wantServed(left, next)
		}
		if got := impl.SweepStops(c, s); !slices.Equal(got, want) {
			t.Fatalf("SweepStops(%q, %v) = %v, not %v", textOf(c), s, got, want)
		}
	})
}

func TestP77WhatIsServedIsOneFloor(t *testing.T) {
	everyStand(func(c impl.Calls, s impl.Stop) {
		left := impl.ServeStop(c, s)
		if !impl.CallsValid(left) || len(left.Up) != len(c.Up) {
			t.Fatalf("ServeStop(%q, %v) = %q: not valid", textOf(c), s, textOf(left))
		}
		everyCallPlace(c, func(kind, floor int) {
			// Of the floor itself only the call to go in the other direction is kept.
			stays := floor != s.Floor || kind == impl.CallUp && s.Dir == -1 || kind == impl.CallDown && s.Dir == 1
			if rowOf(&left, kind)[floor] != (rowOf(&c, kind)[floor] && stays) {
				t.Fatalf("ServeStop(%q, %v) = %q", textOf(c), s, textOf(left))
			}
		})
	})
}

func TestP77ServedAgainNothingChanges(t *testing.T) {
	everyStand(func(c impl.Calls, s impl.Stop) {
		left := impl.ServeStop(c, s)
		if again := impl.ServeStop(left, s); !sameCalls(again, left) {
			t.Fatalf("ServeStop(%q, %v) = %q, and again %q", textOf(c), s, textOf(left), textOf(again))
		}
	})
}

// collectiveRefused tells that there is no stop, nothing served and nothing to sweep.
func collectiveRefused(t *testing.T, c impl.Calls, s impl.Stop) {
	t.Helper()
	if next := impl.NextStop(c, s); next != noStop {
		t.Fatalf("NextStop(%v, %v) = %v", c, s, next)
	}
	if left := impl.ServeStop(c, s); !sameCalls(left, impl.Calls{}) {
		t.Fatalf("ServeStop(%v, %v) = %v", c, s, left)
	}
	if list := impl.SweepStops(c, s); len(list) != 0 {
		t.Fatalf("SweepStops(%v, %v) = %v", c, s, list)
	}
}

func TestCollectiveControlForPlacesThatAreNone(t *testing.T) {
	everyCalls(func(c impl.Calls) {
		for _, s := range badPlaces(len(c.Up)) {
			collectiveRefused(t, c, s)
		}
	})
}

func TestCollectiveControlForCallsThatAreNotValid(t *testing.T) {
	for why, c := range badCalls() {
		t.Run(why, func(t *testing.T) {
			for _, s := range placesOf(impl.MaxFloors + 1) {
				collectiveRefused(t, c, s)
			}
			for _, s := range badPlaces(len(c.Up)) {
				collectiveRefused(t, c, s)
			}
		})
	}
}

func TestServeStopSharesNoMemory(t *testing.T) {
	everyStand(func(c impl.Calls, s impl.Stop) {
		before := copyOfCalls(c)
		spoil(impl.ServeStop(c, s))
		if !sameCalls(c, before) {
			t.Fatalf("ServeStop(%q, %v) shares memory with its argument", textOf(before), s)
		}
		ownMemory(t, impl.ServeStop(c, s))
		if left := impl.ServeStop(c, s); !sameCalls(left, wantServed(c, s)) {
			t.Fatalf("ServeStop(%q, %v) = %q after a result was written to", textOf(c), s, textOf(left))
		}
	})
}

func TestSweepStopsSharesNoMemory(t *testing.T) {
	c := callsOf("11111110", "01111111", "11111111")
	for _, s := range placesOf(impl.MaxFloors) {
		before := slices.Clone(impl.SweepStops(c, s))
		list := impl.SweepStops(c, s)
		list = list[:cap(list)]
		for i := range list {
			list[i] = noStop
		}
		if after := impl.SweepStops(c, s); !slices.Equal(after, before) {
			t.Errorf("SweepStops(%q, %v) = %v, and then %v", textOf(c), s, before, after)
		}
	}
}

func TestCollectiveControlWritesToNoCalls(t *testing.T) {
	check := func(c impl.Calls) {
		// Behind the end of each row there is spare room, which is not to be written to either.
		whole := impl.Calls{Up: append(slices.Clone(c.Up), true, false), Down: append(slices.Clone(c.Down), true, false), Car: append(slices.Clone(c.Car), true, false)}
		before := copyOfCalls(whole)
		given := impl.Calls{Up: whole.Up[:len(c.Up)], Down: whole.Down[:len(c.Down)], Car: whole.Car[:len(c.Car)]}
		for _, s := range append(placesOf(len(c.Up)), up(-1), down(len(c.Up)), impl.Stop{}) {
			impl.NextStop(given, s)
			impl.ServeStop(given, s)
			impl.SweepStops(given, s)
		}
		if !sameCalls(whole, before) {
			t.Fatalf("%v became %v", before, whole)
		}
	}
	everyCalls(check)
	for _, c := range badCalls() {
		check(c)
	}
}
