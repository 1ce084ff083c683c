package tests

import (
	"math"
	"slices"
	"testing"

	"loop.example/elevators/impl"
)

// everyDoor holds all valid doors, from a closed one to one that opened just now.
var everyDoor = []impl.Door{
	{}, {Gap: 1}, {Gap: 2}, {Gap: 3}, {Gap: 4}, {Gap: 4, Hold: 1}, {Gap: 4, Hold: 2}, {Gap: 4, Hold: 3},
}

// beyondTicks holds numbers of ticks that are none, on both sides.
var beyondTicks = []int{math.MinInt, -99, -1, 100, 101, math.MaxInt}

// badDoors returns doors that are not valid, near the valid ones and far from them.
func badDoors() []impl.Door {
	var list []impl.Door
	numbers := []int{math.MinInt, -4, -3, -2, -1, 0, 1, 2, 3, 4, 5, 6, 7, 8, math.MaxInt}
	for _, gap := range numbers {
		for _, hold := range numbers {
			if d := (impl.Door{Gap: gap, Hold: hold}); !slices.Contains(everyDoor, d) {
				list = append(list, d)
			}
		}
	}
	return list
}

// everyTick calls f for every valid door and everything that can happen to it in a tick.
func everyTick(f func(d impl.Door, ask, blocked bool)) {
	for _, d := range everyDoor {
		for _, ask := range []bool{false, true} {
			for _, blocked := range []bool{false, true} {
				f(d, ask, blocked)
			}
		}
	}
}

// everyTicks calls f for all that can happen to a door in so many ticks: the ticks in which it is asked to open, and those in which something is in its way.
func everyTicks(ticks int, f func(asks, blocks []int)) {
	lists := everyChoice(ticks)
	for _, asks := range lists {
		for _, blocks := range lists {
			f(asks, blocks)
		}
	}
}

// everyChoice returns all lists of some of so many ticks, each in ascending order.
func everyChoice(ticks int) [][]int {
	var lists [][]int
	for bits := range 1 << ticks {
		var list []int
		for tick := range ticks {
			if bits>>tick&1 == 1 {
				list = append(list, tick)
			}
		}
		lists = append(lists, list)
	}
	return lists
}

// laterBy returns numbers of ticks as they are told when the first ones are over.
func laterBy(over int, ticks []int) []int {
	list := slices.Clone(ticks)
	for i := range list {
		list[i] -= over
	}
	return list
}

// everyNumber returns the numbers from 0 to below n.
func everyNumber(n int) []int {
	list := make([]int, n)
	for i := range list {
		list[i] = i
	}
	return list
}

func TestDoorConstants(t *testing.T) {
	if impl.DoorWide != 4 || impl.DwellTicks != 3 {
		t.Errorf("DoorWide = %d, DwellTicks = %d", impl.DoorWide, impl.DwellTicks)
	}
}

func TestDoorValid(t *testing.T) {
	for _, d := range everyDoor {
		if !impl.DoorValid(d) {
			t.Errorf("%v is not valid", d)
		}
	}
	for _, d := range badDoors() {
		if impl.DoorValid(d) {
			t.Errorf("%v is valid", d)
		}
	}
}

func TestP56OnlyAnOpenDoorIsHeld(t *testing.T) {
	for _, d := range everyDoor {
		if free := (impl.Door{Gap: d.Gap}); !impl.DoorValid(free) {
			t.Errorf("%v is not valid", free)
		}
	}
	for gap := 1; gap < impl.DoorWide; gap++ {
		if d := (impl.Door{Gap: gap}); !impl.DoorValid(d) {
			t.Errorf("%v is not valid", d)
		}
		for hold := 1; hold <= impl.DwellTicks; hold++ {
			if d := (impl.Door{Gap: gap, Hold: hold}); impl.DoorValid(d) {
				t.Errorf("%v is valid", d)
			}
		}
	}
}

func TestDoorStepByHand(t *testing.T) {
	tests := []struct{ from, alone, blocked, asked impl.Door }{
		{impl.Door{}, impl.Door{}, impl.Door{}, impl.Door{Gap: 1}},
		{impl.Door{Gap: 1}, impl.Door{}, impl.Door{Gap: 2}, impl.Door{Gap: 2}},
		{impl.Door{Gap: 2}, impl.Door{Gap: 1}, impl.Door{Gap: 3}, impl.Door{Gap: 3}},
		{impl.Door{Gap: 3}, impl.Door{Gap: 2}, impl.Door{Gap: 4, Hold: 3}, impl.Door{Gap: 4, Hold: 3}},
		{impl.Door{Gap: 4}, impl.Door{Gap: 3}, impl.Door{Gap: 4, Hold: 3}, impl.Door{Gap: 4, Hold: 3}},
		{impl.Door{Gap: 4, Hold: 1}, impl.Door{Gap: 4}, impl.Door{Gap: 4, Hold: 3}, impl.Door{Gap: 4, Hold: 3}},
		{impl.Door{Gap: 4, Hold: 2}, impl.Door{Gap: 4, Hold: 1}, impl.Door{Gap: 4, Hold: 3}, impl.Door{Gap: 4, Hold: 3}},
		{impl.Door{Gap: 4, Hold: 3}, impl.Door{Gap: 4, Hold: 2}, impl.Door{Gap: 4, Hold: 3}, impl.Door{Gap: 4, Hold: 3}},
	}
	for _, x := range tests {
		if got := impl.DoorStep(x.from, false, false); got != x.alone {
			t.Errorf("%v alone becomes %v, not %v", x.from, got, x.alone)
		}
		if got := impl.DoorStep(x.from, false, true); got != x.blocked {
			t.Errorf("%v with something in its way becomes %v, not %v", x.from, got, x.blocked)
		}
		for _, blocked := range []bool{false, true} {
			if got := impl.DoorStep(x.from, true, blocked); got != x.asked {
				t.Errorf("%v asked to open (in its way: %v) becomes %v, not %v", x.from, blocked, got, x.asked)
			}
		}
	}
}

func TestDoorStepLeadsToAValidDoor(t *testing.T) {
	everyTick(func(d impl.Door, ask, blocked bool) {
		if next := impl.DoorStep(d, ask, blocked); !impl.DoorValid(next) {
			t.Errorf("DoorStep(%v, %v, %v) = %v", d, ask, blocked, next)
		}
	})
}

func TestP3NoDoorClosesOnWhatIsInItsWay(t *testing.T) {
	everyTick(func(d impl.Door, ask, blocked bool) {
		next := impl.DoorStep(d, ask, blocked)
		if (ask || blocked) && next.Gap < d.Gap {
			t.Errorf("%v closes to %v (asked: %v, in its way: %v)", d, next, ask, blocked)
		}
		if distance(d.Gap, next.Gap) > 1 {
			t.Errorf("%v jumps to %v (asked: %v, in its way: %v)", d, next, ask, blocked)
		}
	})
}

func TestP3InManyTicksToo(t *testing.T) {
	var even, odd []int
	for tick := range 99 {
		if tick%2 == 0 {
			even = append(even, tick)
		} else {
			odd = append(odd, tick)
		}
	}
	all := everyNumber(99)
	for _, d := range everyDoor {
		for ticks := range 100 {
			for _, lists := range [][2][]int{{nil, all}, {all, nil}, {all, all}, {even, odd}, {odd, even}} {
				if got := impl.DoorRun(d, ticks, lists[0], lists[1]); got.Gap < d.Gap {
					t.Errorf("after %d ticks %v is %v (asked: %v, in its way: %v)", ticks, d, got, lists[0], lists[1])
				}
			}
		}
	}
}

func TestDoorThatIsBlockedWhileItCloses(t *testing.T) {
	open := impl.Door{Gap: 4, Hold: 3}
	tests := []struct {
		ticks  int
		blocks []int
		want   impl.Door
	}{
		{3, nil, impl.Door{Gap: 4}},
		{6, nil, impl.Door{Gap: 1}},
		{7, nil, impl.Door{}},
		{1, []int{0}, impl.Door{Gap: 4, Hold: 3}}, // held on
		{4, []int{3}, impl.Door{Gap: 4, Hold: 3}}, // caught before it moves
		{5, []int{4}, impl.Door{Gap: 4, Hold: 3}}, // caught at 3: open again
		{6, []int{5}, impl.Door{Gap: 3}},          // caught at 2: not open yet, and so not held
		{7, []int{5}, impl.Door{Gap: 2}},          // but closing again at once
		{7, []int{5, 6}, impl.Door{Gap: 4, Hold: 3}},
		{13, []int{5, 6}, impl.Door{Gap: 1}}, // held and closed as ever
		{14, []int{5, 6}, impl.Door{}},
		{7, []int{6}, impl.Door{Gap: 2}}, // caught at 1
		{8, []int{7}, impl.Door{}},       // too late: it is closed
		{99, []int{98}, impl.Door{}},
	}
	for _, x := range tests {
		if got := impl.DoorRun(open, x.ticks, nil, x.blocks); got != x.want {
			t.Errorf("after %d ticks with something in its way at %v it is %v, not %v", x.ticks, x.blocks, got, x.want)
		}
	}
}

func TestDoorRunByHand(t *testing.T) {
	tests := []struct {
		from         impl.Door
		ticks        int
		asks, blocks []int
		want         impl.Door
	}{
		{impl.Door{Gap: 2}, 0, []int{0}, []int{0}, impl.Door{Gap: 2}}, // no tick, nothing happens
		{impl.Door{Gap: 4, Hold: 2}, 0, nil, nil, impl.Door{Gap: 4, Hold: 2}},
		{impl.Door{}, 1, []int{0}, nil, impl.Door{Gap: 1}},
		{impl.Door{}, 4, []int{0}, []int{1, 2, 3}, impl.Door{Gap: 4, Hold: 3}}, // what is in its way opens it further
		{impl.Door{}, 4, []int{1}, []int{0, 2}, impl.Door{Gap: 1}},             // but not before it is asked
		{impl.Door{}, 4, []int{3, 0, 2, 1}, nil, impl.Door{Gap: 4, Hold: 3}},   // in any order
		{impl.Door{}, 4, []int{2, 3, 2, 3, 3}, nil, impl.Door{Gap: 2}},         // told again
		{impl.Door{}, 11, []int{0, 1, 2, 3}, nil, impl.Door{}},                 // opened, held and closed
		{impl.Door{}, 10, []int{0, 1, 2, 3}, nil, impl.Door{Gap: 1}},
		{impl.Door{}, 99, []int{98}, nil, impl.Door{Gap: 1}}, // the last tick that there is
		{impl.Door{}, 99, []int{97}, []int{98}, impl.Door{Gap: 2}},
		{impl.Door{}, 99, []int{99}, []int{99}, impl.Door{}}, // one too late
	}
	for _, x := range tests {
		if got := impl.DoorRun(x.from, x.ticks, x.asks, x.blocks); got != x.want {
			t.Errorf("DoorRun(%v, %d, %v, %v) = %v, not %v", x.from, x.ticks, x.asks, x.blocks, got, x.want)
		}
	}
}

func TestDoorRunIsManyDoorSteps(t *testing.T) {
	everyTicks(4, func(asks, blocks []int) {
		for _, d := range everyDoor {
			want := d
			for tick := range 4 {
				want = impl.DoorStep(want, slices.Contains(asks, tick), slices.Contains(blocks, tick))
			}
			if got := impl.DoorRun(d, 4, asks, blocks); got != want {
				t.Fatalf("DoorRun(%v, 4, %v, %v) = %v, not %v", d, asks, blocks, got, want)
			}
		}
	})
}

func TestDoorRunPassesOverNumbersThatAreNoTicks(t *testing.T) {
	for _, ticks := range []int{0, 1, 2, 3, 5, 50, 98, 99} {
		none := []int{math.MinInt, -1000, -64, -1, ticks, ticks + 1, ticks + 64, 99, 100, 1000, math.MaxInt}
		for _, d := range everyDoor {
			want := impl.DoorRun(d, ticks, nil, nil)
			for _, lists := range [][2][]int{{none, nil}, {nil, none}, {none, none}} {
				if got := impl.DoorRun(d, ticks, lists[0], lists[1]); got != want {
					t.Errorf("DoorRun(%v, %d, %v, %v) = %v, not %v", d, ticks, lists[0], lists[1], got, want)
				}
			}
		}
	}
	with, without := []int{-1, 2, 7, math.MinInt, 0, math.MaxInt, 100}, []int{2, 0}
	for _, d := range everyDoor {
		want := impl.DoorRun(d, 3, without, without)
		if got := impl.DoorRun(d, 3, with, with); got != want {
			t.Errorf("DoorRun(%v, 3, %v, %v) = %v, not %v", d, with, with, got, want)
		}
	}
}

func TestP57TicksFollowEachOther(t *testing.T) {
	const all = 5
	everyTicks(all, func(asks, blocks []int) {
		for _, d := range everyDoor {
			want := impl.DoorRun(d, all, asks, blocks)
			for first := range all + 1 {
				half := impl.DoorRun(d, first, asks, blocks)
				got := impl.DoorRun(half, all-first, laterBy(first, asks), laterBy(first, blocks))
				if got != want {
					t.Fatalf("%v after %d ticks is %v, in two parts with %d first %v (%v, %v)", d, all, want, first, got, asks, blocks)
				}
			}
		}
	})
}

func TestP57LongPartsOfTicksFollowEachOther(t *testing.T) {
	asks, blocks := []int{3, 4, 20, 21, 22, 23, 60, 98}, []int{0, 1, 27, 28, 30, 61, 62, 63, 97}
	for _, d := range everyDoor {
		want := impl.DoorRun(d, 99, asks, blocks)
		for first := range 100 {
			half := impl.DoorRun(d, first, asks, blocks)
			if got := impl.DoorRun(half, 99-first, laterBy(first, asks), laterBy(first, blocks)); got != want {
				t.Errorf("%v after 99 ticks is %v, in two parts with %d first %v", d, want, first, got)
			}
		}
	}
}

func TestP57AClosedDoorStaysClosedWithoutAsking(t *testing.T) {
	for ticks := range 100 {
		for _, blocks := range [][]int{nil, {0}, {ticks - 1}, {0, 2, 3, 5, 50, 98}, everyNumber(ticks), everyNumber(200)} {
			if got := impl.DoorRun(impl.Door{}, ticks, nil, blocks); got != (impl.Door{}) {
				t.Errorf("after %d ticks with something in its way at %v it is %v", ticks, blocks, got)
			}
			if got := impl.DoorRun(impl.Door{}, ticks, []int{-1, ticks}, blocks); got != (impl.Door{}) {
				t.Errorf("after %d ticks, asked before and after them, it is %v", ticks, got)
			}
		}
	}
}

func TestDoorTicksByHand(t *testing.T) {
	for i, d := range everyDoor {
		// The doors stand in the order in which they close.
		if got := impl.DoorTicks(d); got != i {
			t.Errorf("DoorTicks(%v) = %d, not %d", d, got, i)
		}
	}
}

func TestP4InTheEndEveryDoorIsClosed(t *testing.T) {
	for _, d := range everyDoor {
		ticks := impl.DoorTicks(d)
		if got := impl.DoorRun(d, ticks, nil, nil); got != (impl.Door{}) {
			t.Errorf("%v after %d ticks is %v", d, ticks, got)
		}
		if ticks == 0 {
			continue
		}
		if got := impl.DoorRun(d, ticks-1, nil, nil); got.Gap == 0 {
			t.Errorf("%v is closed after %d ticks, not after %d", d, ticks-1, ticks)
		}
	}
}

func TestP4WhateverHappenedBefore(t *testing.T) {
	everyTicks(4, func(asks, blocks []int) {
		for _, from := range everyDoor {
			d := impl.DoorRun(from, 4, asks, blocks)
			for ticks := impl.DoorTicks(d); ticks > 0; ticks-- {
				if d.Gap == 0 {
					t.Fatalf("%v is closed too early (%v, %v)", from, asks, blocks)
				}
				d = impl.DoorStep(d, false, false)
			}
			if d != (impl.Door{}) {
				t.Fatalf("%v is not closed in the end, but %v (%v, %v)", from, d, asks, blocks)
			}
		}
	})
}

func TestDoorsThatAreNotValid(t *testing.T) {
	for _, d := range badDoors() {
		for _, ask := range []bool{false, true} {
			for _, blocked := range []bool{false, true} {
				if got := impl.DoorStep(d, ask, blocked); got != (impl.Door{}) {
					t.Errorf("DoorStep(%v, %v, %v) = %v", d, ask, blocked, got)
				}
			}
		}
		for _, ticks := range append([]int{0, 1, 7, 99}, beyondTicks...) {
			for _, list := range [][]int{nil, {0}, everyNumber(7)} {
				if got := impl.DoorRun(d, ticks, list, list); got != (impl.Door{}) {
					t.Errorf("DoorRun(%v, %d, %v, %v) = %v", d, ticks, list, list, got)
				}
			}
		}
		if got := impl.DoorTicks(d); got != -1 {
			t.Errorf("DoorTicks(%v) = %d", d, got)
		}
	}
}

func TestDoorRunForTicksThatAreNotValid(t *testing.T) {
	for _, ticks := range beyondTicks {
		for _, d := range everyDoor {
			for _, list := range [][]int{nil, {0}, everyNumber(100)} {
				if got := impl.DoorRun(d, ticks, list, list); got != (impl.Door{}) {
					t.Errorf("DoorRun(%v, %d, %v, %v) = %v", d, ticks, list, list, got)
				}
			}
		}
	}
	for _, d := range everyDoor {
		if got, want := impl.DoorRun(d, 99, []int{98}, nil), (impl.Door{Gap: 1}); got != want {
			t.Errorf("DoorRun(%v, 99, [98], []) = %v, not %v", d, got, want)
		}
	}
}

func TestDoorRunDoesNotWriteToItsArguments(t *testing.T) {
	asks, blocks := []int{7, 0, -3, 0, 200, 2}, []int{1, 9, 9, -1, 4}
	askRoom, blockRoom := slices.Clone(asks), slices.Clone(blocks)
	for _, ticks := range []int{-1, 0, 3, 99, 100} {
		impl.DoorRun(impl.Door{Gap: 2}, ticks, asks[:4], blocks[:3])
		if !slices.Equal(asks, askRoom) || !slices.Equal(blocks, blockRoom) {
			t.Fatalf("after %d ticks the lists are %v and %v", ticks, asks, blocks)
		}
	}
}
