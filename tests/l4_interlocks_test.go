package tests

import (
	"math"
	"slices"
	"testing"

	"loop.example/elevators/impl"
)

// liftFloors holds buildings with one floor, with floors side by side, with wide and uneven gaps, and with as many floors as there can be.
var liftFloors = [][]int{
	{0}, {0, 1}, {0, 60}, {0, 4, 9}, {0, 1, 30, 60}, {0, 1, 2, 3, 4, 5, 6, 7}, {0, 4, 9, 15, 16, 30, 45, 60},
}

var open = impl.Door{Gap: impl.DoorWide, Hold: impl.DwellTicks}

func stand(at int, d impl.Door) impl.Lift {
	return impl.Lift{Run: impl.Motion{At: at}, Gate: d}
}

func moving(at, speed int) impl.Lift {
	return impl.Lift{Run: impl.Motion{At: at, Speed: speed}}
}

// standsAt tells whether a car stands at one of some floors.
func standsAt(floors []int, m impl.Motion) bool {
	return m.Speed == 0 && slices.Contains(floors, m.At)
}

// everyLift calls f for every valid car of a building.
func everyLift(floors []int, f func(x impl.Lift)) {
	everyMotion(func(m impl.Motion) { f(impl.Lift{Run: m}) })
	for _, height := range floors {
		for _, d := range everyDoor[1:] {
			f(stand(height, d))
		}
	}
}

// everyLiftDrive calls f for every valid car of all buildings and every floor to which it can be driven.
func everyLiftDrive(f func(floors []int, x impl.Lift, target int)) {
	for _, floors := range liftFloors {
		everyLift(floors, func(x impl.Lift) {
			for target := range floors {
				f(floors, x, target)
			}
		})
	}
}

// everyLiftTick calls f for everything that can happen to a valid car in a tick.
func everyLiftTick(f func(floors []int, x impl.Lift, target int, ask, blocked bool)) {
	everyLiftDrive(func(floors []int, x impl.Lift, target int) {
		for _, ask := range []bool{false, true} {
			for _, blocked := range []bool{false, true} {
				f(floors, x, target, ask, blocked)
			}
		}
	})
}

// badLifts returns cars that are not valid in a building, each for one reason, or for several.
func badLifts(floors []int) []impl.Lift {
	var list []impl.Lift
	for _, at := range beyond {
		list = append(list, stand(at, impl.Door{}), stand(at, open), moving(at, 1))
	}
	for _, speed := range beyondSpeed {
		list = append(list, moving(0, speed), moving(30, speed), moving(impl.MaxStep, speed))
	}
	for _, d := range badDoors() {
		list = append(list, stand(0, d), stand(30, d), stand(floors[len(floors)-1], d), impl.Lift{Run: impl.Motion{At: 0, Speed: 1}, Gate: d})
	}
	everyMotion(func(m impl.Motion) {
		if standsAt(floors, m) {
			return
		}
		for _, d := range everyDoor[1:] {
			list = append(list, impl.Lift{Run: m, Gate: d})
		}
	})
	return list
}

// noFloors returns numbers that are no floors of a building, some of which are heights.
func noFloors(floors []int) []int {
	list := []int{math.MinInt, -impl.MaxStep, -1, len(floors), len(floors) + 1, impl.MaxFloors, impl.MaxStep, math.MaxInt}
	for _, height := range floors {
		if height >= len(floors) {
			list = append(list, height)
		}
	}
	return list
}

// goodAndBadFloors returns buildings, and lists that are none.
func goodAndBadFloors() [][]int {
	list := slices.Clone(liftFloors)
	for _, floors := range badFloors() {
		list = append(list, floors)
	}
	return list
}

func TestLiftValid(t *testing.T) {
	for _, floors := range liftFloors {
		everyLift(floors, func(x impl.Lift) {
			if !impl.LiftValid(floors, x) {
				t.Fatalf("%v is not valid in %v", x, floors)
			}
		})
		for _, x := range badLifts(floors) {
			if impl.LiftValid(floors, x) {
				t.Fatalf("%v is valid in %v", x, floors)
			}
		}
	}
}

func TestLiftValidByHand(t *testing.T) {
	ajar := impl.Door{Gap: 2}
	tests := []struct {
		x     impl.Lift
		valid bool
	}{
		{stand(4, impl.Door{}), true}, {stand(4, ajar), true}, {stand(4, open), true}, {stand(0, open), true}, {stand(9, open), true},
		{stand(5, impl.Door{}), true}, {stand(60, impl.Door{}), true}, {moving(4, 1), true}, {moving(7, -5), true},
		{stand(5, ajar), false}, {stand(10, open), false}, {stand(1, open), false}, {stand(60, ajar), false}, // away from a floor
		{impl.Lift{Run: impl.Motion{At: 4, Speed: 1}, Gate: ajar}, false}, {impl.Lift{Run: impl.Motion{At: 4, Speed: -1}, Gate: open}, false},
		{impl.Lift{Run: impl.Motion{At: 9, Speed: 5}, Gate: impl.Door{Gap: 1}}, false}, {impl.Lift{Run: impl.Motion{At: 5, Speed: 1}, Gate: ajar}, false},
		{stand(61, impl.Door{}), false}, {stand(-1, impl.Door{}), false}, {moving(4, 6), false}, {moving(4, -6), false},
		{stand(4, impl.Door{Gap: 5}), false}, {stand(4, impl.Door{Gap: -1}), false}, {stand(4, impl.Door{Hold: 1}), false}, {stand(4, impl.Door{Gap: 3, Hold: 1}), false},
	}
	for _, x := range tests {
		if got := impl.LiftValid([]int{0, 4, 9}, x.x); got != x.valid {
			t.Errorf("LiftValid(%v) = %v", x.x, got)
		}
	}
}

func TestP58DoorsAreOpenAtFloorsOnly(t *testing.T) {
	for _, floors := range liftFloors {
		everyMotion(func(m impl.Motion) {
			for _, d := range everyDoor {
				x := impl.Lift{Run: m, Gate: d}
				if !impl.LiftValid(floors, x) {
					continue
				}
				if d.Gap > 0 && !standsAt(floors, m) {
					t.Fatalf("%v is valid in %v with its door not closed", x, floors)
				}
				if closed := (impl.Lift{Run: m}); !impl.LiftValid(floors, closed) {
					t.Fatalf("%v is valid in %v, but not with its door closed", x, floors)
				}
			}
			if closed := (impl.Lift{Run: m}); !impl.LiftValid(floors, closed) {
				t.Fatalf("%v is not valid in %v", closed, floors)
			}
		})
	}
}

func TestP5NeverDoesACarMoveWithItsDoorOpen(t *testing.T) {
	everyLiftTick(func(floors []int, x impl.Lift, target int, ask, blocked bool) {
		next := impl.LiftStep(floors, x, target, ask, blocked)
		if !impl.LiftValid(floors, next) {
			t.Fatalf("%v driven to %d of %v (asked: %v, in its way: %v) is not valid: %v", x, target, floors, ask, blocked, next)
		}
		if x.Gate.Gap > 0 && next.Run != x.Run {
			t.Fatalf("%v driven to %d of %v (asked: %v, in its way: %v) moves with its door open: %v", x, target, floors, ask, blocked, next)
		}
		if next.Run.At != x.Run.At && next.Gate != (impl.Door{}) {
			t.Fatalf("%v driven to %d of %v (asked: %v, in its way: %v) opens while it moves: %v", x, target, floors, ask, blocked, next)
		}
	})
}

func TestP5InManyTicksToo(t *testing.T) {
	for _, floors := range liftFloors {
		x := impl.Lift{}
		// The three have periods of different lengths, so that each of them meets the others in many ways.
		for tick := range 20000 {
			target, ask, blocked := tick/37%len(floors), tick%11 < 2, tick%7 == 3
			next := impl.LiftStep(floors, x, target, ask, blocked)
			if !impl.LiftValid(floors, next) || x.Gate.Gap > 0 && next.Run != x.Run || next.Run != x.Run && next.Gate.Gap > 0 {
				t.Fatalf("in the tick %d of %v: %v became %v", tick, floors, x, next)
			}
			x = next
		}
	}
}

// stepOfOne returns a valid car of which only one part does a step.
func stepOfOne(floors []int, x impl.Lift, target int, ask, blocked bool) impl.Lift {
	if x.Gate.Gap == 0 && !(ask && standsAt(floors, x.Run)) {
		x.Run = stepByTrying(x.Run, floors[target])
		return x
	}
	x.Gate = impl.DoorStep(x.Gate, ask, blocked)
	return x
}

func TestLiftStepIsThatOfOnePart(t *testing.T) {
	everyLiftTick(func(floors []int, x impl.Lift, target int, ask, blocked bool) {
		got, want := impl.LiftStep(floors, x, target, ask, blocked), stepOfOne(floors, x, target, ask, blocked)
		if got != want {
			t.Fatalf("LiftStep(%v, %v, %d, %v, %v) = %v, not %v", floors, x, target, ask, blocked, got, want)
		}
	})
}

func TestLiftStepByHand(t *testing.T) {
	door := func(gap int) impl.Door { return impl.Door{Gap: gap} }
	tests := []struct {
		x              impl.Lift
		target         int
		alone, blocked impl.Lift
		asked          impl.Lift
	}{
		// On its way between two floors, also where it stands there: nobody is heard.
		{moving(2, 1), 1, moving(3, 1), moving(3, 1), moving(3, 1)},
		{stand(2, door(0)), 1, moving(3, 1), moving(3, 1), moving(3, 1)},
		{stand(60, door(0)), 0, moving(59, -1), moving(59, -1), moving(59, -1)},
		// It passes a floor, upward and downward, or has just met its own one.
		{moving(4, 2), 2, moving(6, 2), moving(6, 2), moving(6, 2)},
		{moving(4, -1), 0, moving(2, -2), moving(2, -2), moving(2, -2)},
		{moving(4, 1), 1, stand(4, door(0)), stand(4, door(0)), stand(4, door(0))},
		{moving(9, 3), 1, moving(11, 2), moving(11, 2), moving(11, 2)},
		// It stands at a floor that is not its target.
		{stand(4, door(0)), 2, moving(5, 1), moving(5, 1), stand(4, door(1))},
		{stand(9, door(0)), 0, moving(8, -1), moving(8, -1), stand(9, door(1))},
		// Its door is not closed while it is driven elsewhere.
		{stand(4, door(1)), 2, stand(4, door(0)), stand(4, door(2)), stand(4, door(2))},
		{stand(4, door(2)), 0, stand(4, door(1)), stand(4, door(3)), stand(4, door(3))},
		{stand(4, door(3)), 0, stand(4, door(2)), stand(4, open), stand(4, open)},
		{stand(4, open), 0, stand(4, impl.Door{Gap: 4, Hold: 2}), stand(4, open), stand(4, open)},
		// It stands at its target already.
		{stand(4, door(0)), 1, stand(4, door(0)), stand(4, door(0)), stand(4, door(1))},
		{stand(4, door(3)), 1, stand(4, door(2)), stand(4, open), stand(4, open)},
		{stand(4, door(4)), 1, stand(4, door(3)), stand(4, open), stand(4, open)},
	}
	for _, x := range tests {
		if got := impl.LiftStep([]int{0, 4, 9}, x.x, x.target, false, false); got != x.alone {
			t.Errorf("%v driven to %d becomes %v, not %v", x.x, x.target, got, x.alone)
		}
		if got := impl.LiftStep([]int{0, 4, 9}, x.x, x.target, false, true); got != x.blocked {
			t.Errorf("%v driven to %d with something in its way becomes %v, not %v", x.x, x.target, got, x.blocked)
		}
		for _, blocked := range []bool{false, true} {
			if got := impl.LiftStep([]int{0, 4, 9}, x.x, x.target, true, blocked); got != x.asked {
				t.Errorf("%v driven to %d and asked to open (in its way: %v) becomes %v, not %v", x.x, x.target, blocked, got, x.asked)
			}
		}
	}
}

func TestCarThatIsAskedToOpenAllTheWay(t *testing.T) {
	floors := []int{0, 4, 9, 20}
	// It passes the floors 1 and 2, asked to open in every tick from the second one on.
	want := []impl.Lift{
		moving(1, 1), moving(3, 2), moving(6, 3), moving(10, 4), moving(14, 4), moving(17, 3), moving(19, 2), moving(20, 1), stand(20, impl.Door{}),
		stand(20, impl.Door{Gap: 1}), stand(20, impl.Door{Gap: 2}), stand(20, impl.Door{Gap: 3}), stand(20, open), stand(20, open),
	}
	x := impl.Lift{}
	for tick, next := range want {
		x = impl.LiftStep(floors, x, 3, tick > 0, false)
		if x != next {
			t.Fatalf("in the tick %d it is %v, not %v", tick, x, next)
		}
	}
	for tick := range 50 {
		if x = impl.LiftStep(floors, x, 0, true, tick%2 == 0); x != stand(20, open) {
			t.Fatalf("asked to open and driven elsewhere it is %v", x)
		}
	}
	for tick := range 50 {
		if x = impl.LiftStep(floors, x, 0, false, true); x != stand(20, open) {
			t.Fatalf("with something in its way for %d ticks it is %v", tick+1, x)
		}
	}
}

func TestP59EveryCarGoesWhereItIsDriven(t *testing.T) {
	everyLiftDrive(func(floors []int, x impl.Lift, target int) {
		there, at := stand(floors[target], impl.Door{}), x
		ticks := impl.LiftGo(floors, x, target)
		for tick := range ticks {
			if at == there {
				t.Fatalf("%v is there, at %d of %v, after %d ticks, not %d", x, target, floors, tick, ticks)
			}
			at = impl.LiftStep(floors, at, target, false, false)
		}
		if ticks < 0 || at != there {
			t.Fatalf("%v driven to %d of %v is %v after %d ticks", x, target, floors, at, ticks)
		}
	})
}

func TestLiftGoByHand(t *testing.T) {
	tests := []struct {
		x             impl.Lift
		target, ticks int
	}{
		{stand(4, impl.Door{}), 1, 0}, {stand(4, impl.Door{Gap: 1}), 1, 1}, {stand(4, impl.Door{Gap: 4}), 1, 4}, {stand(4, open), 1, 7}, // there already
		{stand(4, impl.Door{}), 0, 4}, {stand(4, impl.Door{Gap: 2}), 0, 6}, {stand(4, open), 0, 11}, {stand(4, impl.Door{Gap: 1}), 2, 6},
		{moving(2, 1), 1, 3}, {moving(4, 1), 1, 1}, {moving(4, -1), 1, 1}, {moving(1, 3), 1, 3},
		{moving(4, 3), 1, 7},          // past the target, and back
		{moving(60, 5), 2, 17},        // caught by the end, and back
		{stand(7, impl.Door{}), 1, 4}, // from between two floors
	}
	for _, x := range tests {
		if got := impl.LiftGo([]int{0, 4, 9}, x.x, x.target); got != x.ticks {
			t.Errorf("LiftGo(%v, %d) = %d, not %d", x.x, x.target, got, x.ticks)
		}
	}
}

func TestP6InTheEndEveryDoorOpensAtItsFloor(t *testing.T) {
	everyLiftDrive(func(floors []int, x impl.Lift, target int) {
		there, at := impl.Motion{At: floors[target]}, x
		ticks := impl.LiftVisit(floors, x, target)
		for tick := range ticks {
			if at.Run == there && at.Gate.Gap == impl.DoorWide {
				t.Fatalf("%v is open at %d of %v after %d ticks, not %d", x, target, floors, tick, ticks)
			}
			if at.Gate.Gap > 0 && at.Run != there && at.Run != x.Run {
				t.Fatalf("%v driven to %d of %v is open on its way: %v", x, target, floors, at)
			}
			at = impl.LiftStep(floors, at, target, at.Run == there, false)
		}
		if ticks < 0 || at.Run != there || at.Gate.Gap != impl.DoorWide {
			t.Fatalf("%v driven to %d of %v is %v after %d ticks", x, target, floors, at, ticks)
		}
	})
}

func TestLiftVisitByHand(t *testing.T) {
	tests := []struct {
		x             impl.Lift
		target, ticks int
	}{
		{stand(4, impl.Door{}), 1, 4}, {stand(4, impl.Door{Gap: 1}), 1, 3}, {stand(4, impl.Door{Gap: 3}), 1, 1}, // there already
		{stand(4, impl.Door{Gap: 4}), 1, 0}, {stand(4, impl.Door{Gap: 4, Hold: 1}), 1, 0}, {stand(4, open), 1, 0},
		{stand(4, impl.Door{}), 0, 8}, {stand(4, impl.Door{Gap: 2}), 0, 10}, {stand(4, impl.Door{Gap: 4}), 0, 12}, {stand(4, open), 0, 15}, // elsewhere
		{moving(4, 1), 1, 5}, {moving(4, -1), 1, 5}, {moving(1, 3), 1, 7}, {moving(4, 3), 1, 11},
		{stand(7, impl.Door{}), 1, 8}, {moving(2, 1), 1, 7},
	}
	for _, x := range tests {
		if got := impl.LiftVisit([]int{0, 4, 9}, x.x, x.target); got != x.ticks {
			t.Errorf("LiftVisit(%v, %d) = %d, not %d", x.x, x.target, got, x.ticks)
		}
	}
}

func TestLiftInABuildingOfOneFloor(t *testing.T) {
	floors := []int{0}
	for i, d := range everyDoor {
		x := stand(0, d)
		if !impl.LiftValid(floors, x) || impl.LiftValid(floors, stand(1, d)) != (d.Gap == 0) {
			t.Errorf("with the door %v it is not valid at the only floor, or it is elsewhere", d)
		}
		if got := impl.LiftGo(floors, x, 0); got != i {
			t.Errorf("LiftGo(%v, 0) = %d, not %d", x, got, i)
		}
		if got, want := impl.LiftVisit(floors, x, 0), impl.DoorWide-d.Gap; got != want {
			t.Errorf("LiftVisit(%v, 0) = %d, not %d", x, got, want)
		}
		if got, want := impl.LiftStep(floors, x, 0, true, false), stand(0, impl.DoorStep(d, true, false)); got != want {
			t.Errorf("%v asked to open becomes %v, not %v", x, got, want)
		}
	}
	if got := impl.LiftStep(floors, stand(0, impl.Door{}), 0, false, true); got != (impl.Lift{}) {
		t.Errorf("a car that has nothing to do becomes %v", got)
	}
	if got := impl.LiftVisit(floors, moving(60, 5), 0); got != 22 {
		t.Errorf("from the end it is there after %d ticks", got)
	}
}

// refused checks that a car is not driven to a target.
func refused(t *testing.T, floors []int, x impl.Lift, target int) {
	t.Helper()
	for _, ask := range []bool{false, true} {
		for _, blocked := range []bool{false, true} {
			if got := impl.LiftStep(floors, x, target, ask, blocked); got != (impl.Lift{}) {
				t.Fatalf("LiftStep(%v, %v, %d, %v, %v) = %v", floors, x, target, ask, blocked, got)
			}
		}
	}
	if got := impl.LiftGo(floors, x, target); got != -1 {
		t.Fatalf("LiftGo(%v, %v, %d) = %d", floors, x, target, got)
	}
	if got := impl.LiftVisit(floors, x, target); got != -1 {
		t.Fatalf("LiftVisit(%v, %v, %d) = %d", floors, x, target, got)
	}
}

func TestLiftsThatAreNotValid(t *testing.T) {
	for _, floors := range liftFloors {
		for _, x := range badLifts(floors) {
			for _, target := range []int{-1, 0, len(floors) - 1, len(floors)} {
				refused(t, floors, x, target)
			}
		}
	}
}

func TestLiftsDrivenToNoFloor(t *testing.T) {
	for _, floors := range liftFloors {
		for _, target := range noFloors(floors) {
			everyLift(floors, func(x impl.Lift) { refused(t, floors, x, target) })
		}
	}
}

func TestLiftsOfFloorsThatAreNotValid(t *testing.T) {
	for why, floors := range badFloors() {
		lifts := []impl.Lift{{}, stand(0, open), stand(4, impl.Door{}), stand(4, open), stand(9, impl.Door{Gap: 1}), moving(4, 2), moving(30, -5)}
		for _, x := range lifts {
			if impl.LiftValid(floors, x) {
				t.Errorf("%s: %v is valid", why, x)
			}
			for target := -1; target <= len(floors); target++ {
				refused(t, floors, x, target)
			}
		}
	}
}

func TestLiftsDoNotWriteToTheirFloors(t *testing.T) {
	for _, floors := range goodAndBadFloors() {
		// Behind the end there is spare room, which is not to be written to either.
		whole := append(slices.Clone(floors), 77, 78)
		before := slices.Clone(whole)
		given := whole[:len(floors)]
		for _, x := range []impl.Lift{{}, stand(0, open), stand(4, impl.Door{Gap: 2}), stand(5, open), moving(4, 3), moving(60, 6)} {
			for target := -1; target <= len(floors); target++ {
				impl.LiftValid(given, x)
				impl.LiftStep(given, x, target, true, false)
				impl.LiftStep(given, x, target, false, true)
				impl.LiftGo(given, x, target)
				impl.LiftVisit(given, x, target)
			}
		}
		if !slices.Equal(whole, before) {
			t.Fatalf("%v became %v", before, whole)
		}
	}
}
