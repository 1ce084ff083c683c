package tests

import (
	"math"
	"slices"
	"testing"

	"loop.example/elevators/impl"
)

// measuredSpeeds holds speeds far from, near and at those that trip a governor, in both directions.
var measuredSpeeds = []int{math.MinInt, math.MinInt + 1, -1000, -9, -8, -7, -6, -5, -2, -1, 0, 1, 2, 5, 6, 7, 8, 9, 1000, math.MaxInt - 1, math.MaxInt}

// endOf returns the end to which a car moves upward or downward.
func endOf(up bool) int {
	if up {
		return impl.MaxStep
	}
	return 0
}

// inWay returns a car that moves with a speed, which is told without its sign, upward or downward.
func inWay(at, speed int, up bool) impl.Motion {
	if up {
		return impl.Motion{At: at, Speed: speed}
	}
	return impl.Motion{At: at, Speed: -speed}
}

// endsOfWay returns the end to which a car moves, or both if it stands.
func endsOfWay(m impl.Motion) []int {
	if m.Speed == 0 {
		return []int{0, impl.MaxStep}
	}
	return []int{endOf(m.Speed > 0)}
}

// everyPlace calls f for every position, upward and downward.
func everyPlace(f func(at int, up bool)) {
	for at := 0; at <= impl.MaxStep; at++ {
		f(at, false)
		f(at, true)
	}
}

// badMotions returns cars that are not valid.
func badMotions() []impl.Motion {
	var list []impl.Motion
	for _, at := range beyond {
		for speed := -impl.MaxSpeed; speed <= impl.MaxSpeed; speed++ {
			list = append(list, impl.Motion{At: at, Speed: speed})
		}
		for _, speed := range beyondSpeed {
			list = append(list, impl.Motion{At: at, Speed: speed})
		}
	}
	for at := 0; at <= impl.MaxStep; at++ {
		for _, speed := range beyondSpeed {
			list = append(list, impl.Motion{At: at, Speed: speed})
		}
	}
	return list
}

// listsOf returns every list of so many numbers out of some.
func listsOf(many int, some []int) [][]int {
	lists := [][]int{{}}
	for range many {
		var longer [][]int
		for _, list := range lists {
			for _, n := range some {
				longer = append(longer, append(slices.Clone(list), n))
			}
		}
		lists = longer
	}
	return lists
}

// everyRun calls f for every list of so many speeds out of some, and all the ticks in which there can be a reset.
func everyRun(ticks int, some []int, f func(speeds, resets []int)) {
	for _, speeds := range listsOf(ticks, some) {
		for _, resets := range everyChoice(ticks) {
			f(speeds, resets)
		}
	}
}

// trippedByLookingBack tells from the last trip on, not tick by tick, whether a governor is tripped.
func trippedByLookingBack(tripped bool, speeds, resets []int) bool {
	first := 0
	for tick := len(speeds) - 1; tick >= 0 && first == 0; tick-- {
		if speeds[tick] >= 7 || speeds[tick] <= -7 {
			tripped, first = true, tick+1
		}
	}
	for _, tick := range resets {
		if tick >= first && tick < len(speeds) && speeds[tick] == 0 {
			return false
		}
	}
	return tripped
}

func TestGovernorSpeed(t *testing.T) {
	if impl.GovernorSpeed != 7 {
		t.Errorf("GovernorSpeed = %d", impl.GovernorSpeed)
	}
}

func TestSpeedLimitByHand(t *testing.T) {
	// The limits for the ways to the end from 0 on; from 10 steps on there is no other limit than MaxSpeed.
	limits := []int{1, 2, 2, 3, 3, 3, 4, 4, 4, 4, 5, 5, 5}
	for way, limit := range limits {
		if got := impl.SpeedLimit(way, false); got != limit {
			t.Errorf("SpeedLimit(%d, false) = %d, not %d", way, got, limit)
		}
		if got := impl.SpeedLimit(impl.MaxStep-way, true); got != limit {
			t.Errorf("SpeedLimit(%d, true) = %d, not %d", impl.MaxStep-way, got, limit)
		}
	}
	for _, at := range []int{13, 20, 30, 47, 50} {
		if up, down := impl.SpeedLimit(at, true), impl.SpeedLimit(at, false); up != 5 || down != 5 {
			t.Errorf("SpeedLimit(%d) = %d upward and %d downward", at, up, down)
		}
	}
	// At an end there is a limit only for those who come to it.
	if up, down := impl.SpeedLimit(0, true), impl.SpeedLimit(60, false); up != 5 || down != 5 {
		t.Errorf("away from the ends the limits are %d and %d", up, down)
	}
}

func TestSpeedLimitIsFoundByBraking(t *testing.T) {
	everyPlace(func(at int, up bool) {
		want := 0
		for speed := range impl.MaxSpeed + 1 {
			if stopsInTime(inWay(at, speed, up), endOf(up)) {
				want = speed
			}
		}
		if got := impl.SpeedLimit(at, up); got != want {
			t.Errorf("SpeedLimit(%d, %v) = %d, not %d", at, up, got, want)
		}
	})
}

func TestSpeedLimitForPositionsThatAreNone(t *testing.T) {
	for _, at := range append([]int{math.MinInt + 1, math.MaxInt - 1, -100, 100}, beyond...) {
		for _, up := range []bool{false, true} {
			if got := impl.SpeedLimit(at, up); got != -1 {
				t.Errorf("SpeedLimit(%d, %v) = %d", at, up, got)
			}
		}
	}
}

func TestP60ALimitIsTheGreatestSpeed(t *testing.T) {
	everyPlace(func(at int, up bool) {
		limit, end := impl.SpeedLimit(at, up), endOf(up)
		if limit < 0 || limit > impl.MaxSpeed {
			t.Fatalf("SpeedLimit(%d, %v) = %d", at, up, limit)
		}
		if m := inWay(at, limit, up); !impl.CanStop(m, end) {
			t.Errorf("%v, at its limit, cannot stop at %d", m, end)
		}
		if m := inWay(at, limit+1, up); limit < impl.MaxSpeed && impl.CanStop(m, end) {
			t.Errorf("%v, above its limit, can stop at %d", m, end)
		}
	})
}

func TestWithinLimitByHand(t *testing.T) {
	tests := []struct {
		at, speed int
		within    bool
	}{
		{0, 0, true}, {60, 0, true}, {30, 0, true}, // a stand
		{0, -1, true}, {0, -2, false}, {0, -5, false}, {60, 1, true}, {60, 2, false}, {60, 5, false}, // the ends
		{0, 5, true}, {60, -5, true}, // away from the ends
		{1, -2, true}, {1, -3, false}, {59, 2, true}, {59, 3, false}, // just possible, or just not
		{3, -3, true}, {2, -3, false}, {57, 3, true}, {58, 3, false},
		{6, -4, true}, {5, -4, false}, {54, 4, true}, {55, 4, false},
		{10, -5, true}, {9, -5, false}, {50, 5, true}, {51, 5, false},
		{30, 5, true}, {30, -5, true}, {30, 6, false}, {30, -6, false}, // no faster than MaxSpeed
		{-1, 0, false}, {61, 0, false}, {-1, 1, false}, {61, -1, false},
	}
	for _, x := range tests {
		if got := impl.WithinLimit(impl.Motion{At: x.at, Speed: x.speed}); got != x.within {
			t.Errorf("at %d with %d: %v", x.at, x.speed, got)
		}
	}
}

func TestWithinLimitIsThatOfBraking(t *testing.T) {
	everyMotion(func(m impl.Motion) {
		want := true
		for _, end := range endsOfWay(m) {
			want = want && stopsInTime(m, end)
		}
		if got := impl.WithinLimit(m); got != want {
			t.Errorf("WithinLimit(%v) = %v", m, got)
		}
	})
}

func TestWithinLimitForCarsThatAreNotValid(t *testing.T) {
	for _, m := range badMotions() {
		if impl.WithinLimit(m) {
			t.Errorf("%v is within the limit", m)
		}
	}
}

func TestP7WhoCanStopAtATargetIsWithinTheLimit(t *testing.T) {
	everyDrive(func(m impl.Motion, target int) {
		if impl.CanStop(m, target) && !impl.WithinLimit(m) {
			t.Fatalf("%v can stop at %d, but is not within the limit", m, target)
		}
	})
}

func TestP7WhoIsWithinTheLimitStaysSo(t *testing.T) {
	within := 0
	everyMotion(func(m impl.Motion) {
		if !impl.WithinLimit(m) {
			return
		}
		within++
		for _, end := range endsOfWay(m) {
			x := m
			for x != (impl.Motion{At: end}) {
				next := impl.MotionStep(x, end)
				if !impl.WithinLimit(next) || next == x {
					t.Fatalf("%v driven to %d is not within the limit any more, or goes no farther: %v", m, end, next)
				}
				x = next
			}
		}
	})
	// The 20 too fast cars on each side are those at 0..0, 0..2, 0..5 and 0..9 with the speeds from -2 to -5.
	if all := (impl.MaxStep + 1) * (2*impl.MaxSpeed + 1); within != all-40 {
		t.Errorf("%d of %d cars are within the limit", within, all)
	}
}

func TestGovernorStepByHand(t *testing.T) {
	tests := []struct {
		speed                                     int
		free, freeReset, tripped, andTrippedReset bool
	}{
		{0, false, false, true, false}, // a reset at a stand
		{1, false, false, true, true}, {-1, false, false, true, true}, {5, false, false, true, true},
		{6, false, false, true, true}, {-6, false, false, true, true}, // just not
		{7, true, true, true, true}, {-7, true, true, true, true}, // just so
		{8, true, true, true, true}, {-8, true, true, true, true},
		{math.MaxInt, true, true, true, true}, {math.MinInt, true, true, true, true}, {math.MinInt + 1, true, true, true, true},
	}
	for _, x := range tests {
		got := [4]bool{impl.GovernorStep(false, x.speed, false), impl.GovernorStep(false, x.speed, true), impl.GovernorStep(true, x.speed, false), impl.GovernorStep(true, x.speed, true)}
		if want := [4]bool{x.free, x.freeReset, x.tripped, x.andTrippedReset}; got != want {
			t.Errorf("measured %d: %v, not %v", x.speed, got, want)
		}
	}
}

func TestP61AGovernorThatTrippedStaysSo(t *testing.T) {
	for _, speed := range measuredSpeeds {
		for _, reset := range []bool{false, true} {
			if got, want := impl.GovernorStep(true, speed, reset), !(reset && speed == 0); got != want {
				t.Errorf("GovernorStep(true, %d, %v) = %v", speed, reset, got)
			}
		}
	}
	for speed := -100; speed <= 100; speed++ {
		if !impl.GovernorStep(true, speed, false) || impl.GovernorStep(true, speed, true) != (speed != 0) {
			t.Errorf("tripped, and measured %d, it is not as it should be", speed)
		}
	}
}

func TestP61ALesserSpeedNeverTripsIt(t *testing.T) {
	for speed := -impl.GovernorSpeed + 1; speed < impl.GovernorSpeed; speed++ {
		if impl.GovernorStep(false, speed, false) || impl.GovernorStep(false, speed, true) {
			t.Errorf("the speed %d trips it", speed)
		}
	}
}

func TestGovernorTripsAtEverySpeedThatIsTooGreat(t *testing.T) {
	for _, speed := range measuredSpeeds {
		if speed > -impl.GovernorSpeed && speed < impl.GovernorSpeed {
			continue
		}
		for _, tripped := range []bool{false, true} {
			if !impl.GovernorStep(tripped, speed, false) || !impl.GovernorStep(tripped, speed, true) {
				t.Errorf("the speed %d does not trip it (tripped before: %v)", speed, tripped)
			}
		}
	}
}

func TestGovernorRunByHand(t *testing.T) {
	tests := []struct {
		speeds, resets []int
		free, tripped  bool
	}{
		{nil, nil, false, true}, {nil, []int{0}, false, true}, {[]int{}, []int{-1, 0, 1}, false, true}, // no ticks at all
		{[]int{0}, nil, false, true}, {[]int{0}, []int{0}, false, false}, {[]int{1}, []int{0}, false, true},
		{[]int{7}, []int{0}, true, true}, {[]int{-7}, nil, true, true}, {[]int{6}, nil, false, true}, {[]int{-6}, []int{0}, false, true},
		{[]int{0, 7}, []int{0}, true, true}, {[]int{7, 0}, []int{0}, true, true}, {[]int{7, 0}, []int{1}, false, false}, // the order counts
		{[]int{7, 1, 0}, []int{1}, true, true}, {[]int{7, 1, 0}, []int{2}, false, false}, {[]int{7, 1, 0}, []int{2, 1}, false, false},
		{[]int{8, 0, -8}, []int{1}, true, true}, {[]int{8, 0, -8, 0}, []int{1}, true, true}, {[]int{8, 0, -8, 0}, []int{3}, false, false}, // behind the last trip
		{[]int{0, 6, 6, -6, 0}, []int{0}, false, false}, {[]int{6, 6, -6, 0}, []int{0, 1, 2}, false, true},
		{[]int{9, 0, 3, -6, 5}, []int{1}, false, false}, {[]int{9, 0, 3, -6, 5}, []int{2, 3, 4}, true, true}, // it is free until it trips again
		{[]int{0, 0, 0}, []int{3, -1, 100}, false, true}, {[]int{0, 7, 0}, []int{-2, 2, 2, 5}, false, false}, // numbers that are no ticks, and twice the same
	}
	for _, x := range tests {
		if got := impl.GovernorRun(false, x.speeds, x.resets); got != x.free {
			t.Errorf("GovernorRun(false, %v, %v) = %v", x.speeds, x.resets, got)
		}
		if got := impl.GovernorRun(true, x.speeds, x.resets); got != x.tripped {
			t.Errorf("GovernorRun(true, %v, %v) = %v", x.speeds, x.resets, got)
		}
	}
}

func TestP8BehindTheLastTripThereIsAReset(t *testing.T) {
	for ticks := range 6 {
		everyRun(ticks, []int{0, 1, -6, 7, -7}, func(speeds, resets []int) {
			for _, tripped := range []bool{false, true} {
				if got := impl.GovernorRun(tripped, speeds, resets); got != trippedByLookingBack(tripped, speeds, resets) {
					t.Fatalf("GovernorRun(%v, %v, %v) = %v", tripped, speeds, resets, got)
				}
			}
		})
	}
}

func TestP8AfterManyTicksToo(t *testing.T) {
	var speeds, resets []int
	// Trips, stands and resets come with periods of different lengths, so that each of them meets the others in many ways.
	for tick := range 500 {
		speed := tick%13 - 6
		switch {
		case tick%29 == 28:
			speed = 7
		case tick%31 == 30:
			speed = -40
		case tick%3 == 0:
			speed = 0
		}
		speeds = append(speeds, speed)
		if tick%11 == 10 {
			resets = append(resets, tick)
		}
	}
	for ticks := range len(speeds) + 1 {
		for _, tripped := range []bool{false, true} {
			got := impl.GovernorRun(tripped, speeds[:ticks], resets)
			if got != trippedByLookingBack(tripped, speeds[:ticks], resets) {
				t.Fatalf("after %d ticks (tripped before: %v) it is %v", ticks, tripped, got)
			}
		}
	}
}

func TestGovernorRunIsManyGovernorSteps(t *testing.T) {
	everyRun(3, measuredSpeeds, func(speeds, resets []int) {
		for _, tripped := range []bool{false, true} {
			want := tripped
			for tick, speed := range speeds {
				want = impl.GovernorStep(want, speed, slices.Contains(resets, tick))
			}
			if got := impl.GovernorRun(tripped, speeds, resets); got != want {
				t.Fatalf("GovernorRun(%v, %v, %v) = %v", tripped, speeds, resets, got)
			}
		}
	})
}

func TestGovernorRunInTwoParts(t *testing.T) {
	everyRun(4, []int{0, 6, -8}, func(speeds, resets []int) {
		for _, tripped := range []bool{false, true} {
			want := impl.GovernorRun(tripped, speeds, resets)
			for first := range len(speeds) + 1 {
				half := impl.GovernorRun(tripped, speeds[:first], resets)
				if got := impl.GovernorRun(half, speeds[first:], laterBy(first, resets)); got != want {
					t.Fatalf("GovernorRun(%v, %v, %v) = %v, in two parts with %d first %v", tripped, speeds, resets, want, first, got)
				}
			}
		}
	})
}

func TestGovernorRunPassesOverNumbersThatAreNoTicks(t *testing.T) {
	for _, ticks := range []int{0, 1, 2, 5, 64, 99, 100, 300} {
		stands := make([]int, ticks)
		none := []int{math.MinInt, -ticks - 1, -64, -1, ticks, ticks + 1, ticks + 64, 1000, math.MaxInt}
		if impl.GovernorRun(false, stands, none) || !impl.GovernorRun(true, stands, none) {
			t.Errorf("in %d ticks a reset in none of them counts", ticks)
		}
		if ticks == 0 {
			continue
		}
		for _, tick := range []int{0, ticks / 2, ticks - 1} {
			if impl.GovernorRun(true, stands, append(slices.Clone(none), tick, tick, -tick-1)) {
				t.Errorf("in %d ticks the reset in the tick %d does not count", ticks, tick)
			}
		}
	}
}

func TestGovernorRunDoesNotWriteToItsArguments(t *testing.T) {
	speeds, resets := []int{7, 0, -3, 0, 200, 0, 77, 78}, []int{5, 1, -1, 5, 9, 79}
	speedRoom, resetRoom := slices.Clone(speeds), slices.Clone(resets)
	for _, tripped := range []bool{false, true} {
		for many := range len(speeds) + 1 {
			// Behind the end there is spare room, which is not to be written to either.
			impl.GovernorRun(tripped, speeds[:many], resets[:many/2])
			if !slices.Equal(speeds, speedRoom) || !slices.Equal(resets, resetRoom) {
				t.Fatalf("after %d ticks the lists are %v and %v", many, speeds, resets)
			}
		}
	}
}
