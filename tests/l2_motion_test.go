package tests

import (
	"math"
	"testing"

	"loop.example/elevators/impl"
)

// beyondSpeed holds speeds that are none, on both sides.
var beyondSpeed = []int{math.MinInt, -100, -impl.MaxSpeed - 1, impl.MaxSpeed + 1, 100, math.MaxInt}

// everyMotion calls f for every valid car.
func everyMotion(f func(m impl.Motion)) {
	for at := 0; at <= impl.MaxStep; at++ {
		for speed := -impl.MaxSpeed; speed <= impl.MaxSpeed; speed++ {
			f(impl.Motion{At: at, Speed: speed})
		}
	}
}

// everyDrive calls f for every valid car and every target.
func everyDrive(f func(m impl.Motion, target int)) {
	everyMotion(func(m impl.Motion) {
		for target := 0; target <= impl.MaxStep; target++ {
			f(m, target)
		}
	})
}

// badDrives returns cars and targets of which at least one is not valid.
func badDrives() map[impl.Motion][]int {
	bad := map[impl.Motion][]int{}
	targets := append([]int{0, 1, 30, impl.MaxStep}, beyond...)
	for _, at := range beyond {
		for speed := -impl.MaxSpeed; speed <= impl.MaxSpeed; speed++ {
			bad[impl.Motion{At: at, Speed: speed}] = targets
		}
	}
	for _, speed := range beyondSpeed {
		for _, at := range targets {
			bad[impl.Motion{At: at, Speed: speed}] = targets
		}
	}
	everyMotion(func(m impl.Motion) { bad[m] = beyond })
	return bad
}

func sign(n int) int {
	switch {
	case n > 0:
		return 1
	case n < 0:
		return -1
	}
	return 0
}

// brakeEnd returns where a car stands that brakes tick by tick, without any ends.
func brakeEnd(m impl.Motion) int {
	for m.Speed != 0 {
		m.Speed -= sign(m.Speed)
		m.At += m.Speed
	}
	return m.At
}

// stopsInTime tells, by braking tick by tick, whether a car is not past a target then.
func stopsInTime(m impl.Motion, target int) bool {
	return sign(m.Speed)*(target-brakeEnd(m)) >= 0
}

// stepByTrying returns a car after a tick in which every change of its speed is tried.
func stepByTrying(m impl.Motion, target int) impl.Motion {
	if stopsInTime(m, target) {
		best, found := impl.Motion{}, false
		for speed := max(m.Speed-1, -impl.MaxSpeed); speed <= min(m.Speed+1, impl.MaxSpeed); speed++ {
			next := impl.Motion{At: m.At + speed, Speed: speed}
			if stopsInTime(next, target) && (!found || distance(next.At, target) < distance(best.At, target)) {
				best, found = next, true
			}
		}
		return best
	}
	speed := m.Speed - sign(m.Speed)
	switch at := m.At + speed; {
	case at < 0:
		return impl.Motion{}
	case at > impl.MaxStep:
		return impl.Motion{At: impl.MaxStep}
	default:
		return impl.Motion{At: at, Speed: speed}
	}
}

func isBetween(at, a, b int) bool {
	return at >= min(a, b) && at <= max(a, b)
}

func TestMotionValid(t *testing.T) {
	everyMotion(func(m impl.Motion) {
		if !impl.MotionValid(m) {
			t.Fatalf("%v is not valid", m)
		}
	})
	for _, at := range beyond {
		for speed := -impl.MaxSpeed; speed <= impl.MaxSpeed; speed++ {
			if m := (impl.Motion{At: at, Speed: speed}); impl.MotionValid(m) {
				t.Fatalf("%v is valid", m)
			}
		}
	}
	for _, speed := range beyondSpeed {
		for at := -1; at <= impl.MaxStep+1; at++ {
			if m := (impl.Motion{At: at, Speed: speed}); impl.MotionValid(m) {
				t.Fatalf("%v is valid", m)
			}
		}
	}
}

func TestP53CarsMayStand(t *testing.T) {
	everyMotion(func(m impl.Motion) {
		if stand := (impl.Motion{At: m.At}); !impl.MotionValid(stand) {
			t.Fatalf("%v is not valid", stand)
		}
		for _, at := range []int{-1, -2, -m.At - 1, math.MinInt} {
			if low := (impl.Motion{At: at, Speed: m.Speed}); impl.MotionValid(low) {
				t.Fatalf("%v is valid", low)
			}
		}
	})
}

func TestP54BrakingDownIsBrakingUpMirrored(t *testing.T) {
	if got := impl.BrakeWay(0); got != 0 {
		t.Errorf("BrakeWay(0) = %d", got)
	}
	for speed := 1; speed <= impl.MaxSpeed; speed++ {
		up, down, lesser := impl.BrakeWay(speed), impl.BrakeWay(-speed), impl.BrakeWay(speed-1)
		if down != -up {
			t.Errorf("BrakeWay(%d) = %d, BrakeWay(%d) = %d", speed, up, -speed, down)
		}
		if up != lesser+speed-1 {
			t.Errorf("BrakeWay(%d) = %d, BrakeWay(%d) = %d", speed, up, speed-1, lesser)
		}
	}
}

func TestBrakeWayIsThatOfBraking(t *testing.T) {
	ways := []int{-10, -6, -3, -1, 0, 0, 0, 1, 3, 6, 10}
	for i, way := range ways {
		speed := i - impl.MaxSpeed
		if got := impl.BrakeWay(speed); got != way || got != brakeEnd(impl.Motion{Speed: speed}) {
			t.Errorf("BrakeWay(%d) = %d, not %d", speed, got, way)
		}
	}
	for _, speed := range beyondSpeed {
		if got := impl.BrakeWay(speed); got != 0 {
			t.Errorf("BrakeWay(%d) = %d", speed, got)
		}
	}
}

func TestCanStop(t *testing.T) {
	everyDrive(func(m impl.Motion, target int) {
		if got := impl.CanStop(m, target); got != stopsInTime(m, target) {
			t.Fatalf("CanStop(%v, %d) = %v", m, target, got)
		}
	})
	tests := []struct {
		at, speed, target int
		can               bool
	}{
		{10, 3, 13, true}, {10, 3, 12, false}, {10, 3, 60, true}, // just far enough, too fast, far away
		{10, -3, 7, true}, {10, -3, 8, false}, {10, -3, 0, true},
		{10, 3, 9, false}, {10, -3, 11, false}, {10, 1, 9, false}, {10, -1, 11, false}, // behind
		{10, 1, 10, true}, {10, -1, 10, true}, {10, 2, 10, false}, {10, -2, 10, false}, // just there
		{50, 5, 60, true}, {51, 5, 60, false}, {10, -5, 0, true}, {9, -5, 0, false}, // the ends
		{60, 1, 60, true}, {60, 2, 60, false}, {0, -1, 0, true}, {0, -2, 0, false},
		{0, 0, 60, true}, {60, 0, 0, true}, {30, 0, 30, true}, // a stand
		{10, 0, 61, false}, {10, 0, -1, false}, {61, 0, 10, false}, {-1, 0, 10, false}, {10, 6, 60, false}, {50, -6, 0, false},
	}
	for _, x := range tests {
		if got := impl.CanStop(impl.Motion{At: x.at, Speed: x.speed}, x.target); got != x.can {
			t.Errorf("CanStop at %d with %d to %d: %v", x.at, x.speed, x.target, got)
		}
	}
}

func TestP1WhoCanStopCanGoOnSo(t *testing.T) {
	everyDrive(func(m impl.Motion, target int) {
		if !impl.CanStop(m, target) {
			return
		}
		next := impl.MotionStep(m, target)
		if !impl.CanStop(next, target) {
			t.Fatalf("%v can stop at %d, but %v behind it cannot", m, target, next)
		}
		if !isBetween(next.At, m.At, target) {
			t.Fatalf("%v moves past %d: %v", m, target, next)
		}
	})
}

func TestP55NothingIsJerked(t *testing.T) {
	everyDrive(func(m impl.Motion, target int) {
		next := impl.MotionStep(m, target)
		if !impl.MotionValid(next) {
			t.Fatalf("%v to %d: %v", m, target, next)
		}
		if next.At == m.At+next.Speed && distance(next.Speed, m.Speed) <= 1 {
			return
		}
		past := m.At + m.Speed - sign(m.Speed)
		if past <= impl.MaxStep && past >= 0 {
			t.Fatalf("%v to %d is jerked: %v", m, target, next)
		}
		if end := min(max(past, 0), impl.MaxStep); next != (impl.Motion{At: end}) {
			t.Fatalf("%v to %d does not stand at the end: %v", m, target, next)
		}
	})
}

func TestMotionStepIsTheFarthestThatStops(t *testing.T) {
	everyDrive(func(m impl.Motion, target int) {
		if got, want := impl.MotionStep(m, target), stepByTrying(m, target); got != want {
			t.Fatalf("MotionStep(%v, %d) = %v, not %v", m, target, got, want)
		}
	})
}

func TestMotionStepByHand(t *testing.T) {
	tests := []struct{ at, speed, target, nextAt, nextSpeed int }{
		{0, 0, 3, 1, 1}, {0, 0, 60, 1, 1}, {60, 0, 0, 59, -1}, {5, 0, 5, 5, 0}, // from a stand
		{0, 0, 0, 0, 0}, {60, 0, 60, 60, 0}, {0, 0, 1, 1, 1}, {60, 0, 59, 59, -1},
		{20, 4, 60, 25, 5}, {20, 5, 60, 25, 5}, {40, -5, 0, 35, -5}, // no faster than MaxSpeed
		{10, 2, 16, 13, 3}, {10, 2, 15, 12, 2}, {10, 2, 13, 12, 2}, {10, 2, 12, 11, 1}, {10, 2, 11, 11, 1}, // nearer and nearer
		{10, 1, 11, 11, 1}, {10, 1, 10, 10, 0}, {10, -1, 10, 10, 0},
		{59, 1, 60, 60, 1}, {1, -1, 0, 0, -1}, {60, 1, 60, 60, 0}, {0, -1, 0, 0, 0}, // the ends are met, not jumped at
		{10, 3, 11, 12, 2}, {10, 5, 12, 14, 4}, {20, -5, 18, 16, -4}, // too fast
		{10, 3, 4, 12, 2}, {10, -3, 14, 8, -2}, {10, 1, 4, 10, 0}, {10, -1, 14, 10, 0}, // behind
		{60, 5, 60, 60, 0}, {57, 5, 60, 60, 0}, {56, 5, 60, 60, 4}, {60, 2, 60, 60, 0}, {60, 4, 0, 60, 0}, // past the ends
		{0, -5, 0, 0, 0}, {3, -5, 0, 0, 0}, {4, -5, 0, 0, -4}, {0, -2, 0, 0, 0}, {0, -4, 60, 0, 0},
	}
	for _, x := range tests {
		m, want := impl.Motion{At: x.at, Speed: x.speed}, impl.Motion{At: x.nextAt, Speed: x.nextSpeed}
		if got := impl.MotionStep(m, x.target); got != want {
			t.Errorf("MotionStep(%v, %d) = %v, not %v", m, x.target, got, want)
		}
	}
}

func TestP2InTheEndEveryCarStandsAtItsTarget(t *testing.T) {
	everyDrive(func(m impl.Motion, target int) {
		there := impl.Motion{At: target}
		x := m
		for tick := range impl.MotionTicks(m, target) {
			if x == there {
				t.Fatalf("%v stands at %d after %d ticks, not %d", m, target, tick, impl.MotionTicks(m, target))
			}
			next := impl.MotionStep(x, target)
			if m.Speed == 0 && !isBetween(next.At, x.At, target) {
				t.Fatalf("%v moves past %d: from %v to %v", m, target, x, next)
			}
			x = next
		}
		if x != there || impl.MotionTicks(m, target) < 0 {
			t.Fatalf("%v is %v after MotionTicks to %d: %d", m, x, target, impl.MotionTicks(m, target))
		}
	})
}

// reached returns for each step after how many ticks any car that stands at first, and whose speed changes by 1 at most in a tick, can stand there for the first time; it may move past the ends, too.
func reached(from int) map[int]int {
	first := map[int]int{}
	now := map[impl.Motion]bool{{At: from}: true}
	seen := map[impl.Motion]bool{}
	for tick := 0; len(now) > 0; tick++ {
		next := map[impl.Motion]bool{}
		for m := range now {
			seen[m] = true
			if m.Speed == 0 {
				first[m.At] = tick
			}
			for speed := max(m.Speed-1, -impl.MaxSpeed); speed <= min(m.Speed+1, impl.MaxSpeed); speed++ {
				next[impl.Motion{At: m.At + speed, Speed: speed}] = true
			}
		}
		for m := range next {
			if seen[m] || m.At < -impl.MaxStep || m.At > 2*impl.MaxStep {
				delete(next, m)
			}
		}
		now = next
	}
	return first
}

func TestP2NoOtherCarIsEarlier(t *testing.T) {
	for from := 0; from <= impl.MaxStep; from++ {
		first := reached(from)
		for target := 0; target <= impl.MaxStep; target++ {
			if got := impl.MotionTicks(impl.Motion{At: from}, target); got != first[target] {
				t.Fatalf("from %d to %d in %d ticks, not in %d", from, target, got, first[target])
			}
		}
	}
}

func TestMotionTicksByHand(t *testing.T) {
	tests := []struct{ at, speed, target, ticks int }{
		{5, 0, 5, 0}, {0, 0, 0, 0}, {60, 0, 60, 0}, // already there
		{0, 0, 1, 2}, {0, 0, 2, 3}, {0, 0, 3, 4}, {0, 0, 4, 4}, {4, 0, 0, 4}, {0, 0, 60, 17}, {60, 0, 0, 17},
		{5, 1, 5, 1}, {5, -1, 5, 1}, {10, 3, 13, 3}, {10, -3, 7, 3}, // only to brake
		{10, 3, 12, 5},  // 12, 13, 13, then 12 and a stand
		{10, 1, 9, 3},   // a stand, 9, and a stand
		{60, 5, 60, 1},  // caught by the end
		{0, -5, 4, 5},   // caught by the end, and back
		{56, 5, 60, 2},  // at the end, but not standing yet
		{10, 5, 10, 12}, // 14, 17, 19, 20, 20, and 10 back
	}
	for _, x := range tests {
		m := impl.Motion{At: x.at, Speed: x.speed}
		if got := impl.MotionTicks(m, x.target); got != x.ticks {
			t.Errorf("MotionTicks(%v, %d) = %d, not %d", m, x.target, got, x.ticks)
		}
	}
}

func TestDrivesThatAreNotValid(t *testing.T) {
	for m, targets := range badDrives() {
		for _, target := range targets {
			if impl.CanStop(m, target) {
				t.Errorf("CanStop(%v, %d)", m, target)
			}
			if got := impl.MotionStep(m, target); got != (impl.Motion{}) {
				t.Errorf("MotionStep(%v, %d) = %v", m, target, got)
			}
			if got := impl.MotionTicks(m, target); got != -1 {
				t.Errorf("MotionTicks(%v, %d) = %d", m, target, got)
			}
		}
	}
}
