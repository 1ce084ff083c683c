package tests

import (
	"math"
	"slices"
	"testing"

	"loop.example/elevators/impl"
)

// waiting, inside and arrived return a rider in one of the three states.
func waiting(from, to int) impl.Rider {
	return impl.Rider{From: from, To: to, State: impl.RideWaits}
}

func inside(from, to int) impl.Rider {
	return impl.Rider{From: from, To: to, State: impl.RideInside}
}

func arrived(from, to int) impl.Rider {
	return impl.Rider{From: from, To: to, State: impl.RideDone}
}

func tripOf(floors, room int, place impl.Stop, riders ...impl.Rider) impl.Trip {
	return impl.Trip{Floors: floors, Room: room, Place: place, Riders: riders}
}

func sameTrip(a, b impl.Trip) bool {
	return a.Floors == b.Floors && a.Room == b.Room && a.Place == b.Place && slices.Equal(a.Riders, b.Riders)
}

func copyOfTrip(t impl.Trip) impl.Trip {
	t.Riders = slices.Clone(t.Riders)
	return t
}

// spoilTrip writes to all memory of the riders, also to spare room behind them.
func spoilTrip(t impl.Trip) {
	riders := t.Riders[:cap(t.Riders)]
	for i := range riders {
		riders[i] = impl.Rider{From: -7, To: -7, State: -7}
	}
}

// floorsBefore returns all floors of the way of a rider but the last one.
func floorsBefore(r impl.Rider) []int {
	var way []int
	for floor := r.From; floor < r.To; floor++ {
		way = append(way, floor)
	}
	for floor := r.From; floor > r.To; floor-- {
		way = append(way, floor)
	}
	return way
}

func dirOf(r impl.Rider) int {
	return sign(r.To - r.From)
}

// inState returns how many riders are in a state.
func inState(riders []impl.Rider, state int) int {
	many := 0
	for _, r := range riders {
		if r.State == state {
			many++
		}
	}
	return many
}

// wantValidTrip follows the sentence of the document part by part; it is for small numbers.
func wantValidTrip(t impl.Trip) bool {
	rooms := numbersFrom(1, impl.MaxInside)
	if !slices.Contains(numbersFrom(1, impl.MaxFloors), t.Floors) || !slices.Contains(rooms, t.Room) {
		return false
	}
	if !slices.Contains(placesOf(t.Floors), t.Place) || len(t.Riders) > impl.MaxRiders {
		return false
	}
	all := everyNumber(t.Floors)
	for _, r := range t.Riders {
		if !slices.Contains(all, r.From) || !slices.Contains(all, r.To) || r.From == r.To {
			return false
		}
		switch r.State {
		case impl.RideWaits, impl.RideDone:
		case impl.RideInside:
			if dirOf(r) != t.Place.Dir || !slices.Contains(floorsBefore(r), t.Place.Floor) {
				return false
			}
		default:
			return false
		}
	}
	return inState(t.Riders, impl.RideInside) <= t.Room
}

// wantTripCalls asks for each call whether there is a rider who makes it.
func wantTripCalls(t impl.Trip) impl.Calls {
	full := inState(t.Riders, impl.RideInside) >= t.Room
	c := impl.Calls{Up: make([]bool, t.Floors), Down: make([]bool, t.Floors), Car: make([]bool, t.Floors)}
	for floor := range t.Floors {
		c.Car[floor] = slices.ContainsFunc(t.Riders, func(r impl.Rider) bool { return r.State == impl.RideInside && r.To == floor })
		for _, dir := range []int{1, -1} {
			callsToGo(c, dir)[floor] = !full && slices.ContainsFunc(t.Riders, func(r impl.Rider) bool {
				return r.State == impl.RideWaits && r.From == floor && dirOf(r) == dir
			})
		}
	}
	return c
}

// wantTripStep follows the sentence of the document: all get out first, and then one after the other gets in.
func wantTripStep(t impl.Trip) (impl.Trip, bool) {
	next := wantNext(wantTripCalls(t), t.Place)
	t = copyOfTrip(t)
	if next == noStop {
		return t, false
	}
	t.Place = next
	for i := range t.Riders {
		if t.Riders[i] == inside(t.Riders[i].From, next.Floor) {
			t.Riders[i].State = impl.RideDone
		}
	}
	for i := range t.Riders {
		if t.Riders[i] == waiting(next.Floor, t.Riders[i].To) && dirOf(t.Riders[i]) == next.Dir && inState(t.Riders, impl.RideInside) < t.Room {
			t.Riders[i].State = impl.RideInside
		}
	}
	return t, true
}

// ridersOf returns all riders between some floors, in all of some states.
func ridersOf(floors, states []int) []impl.Rider {
	var riders []impl.Rider
	for _, from := range floors {
		for _, to := range floors {
			for _, state := range states {
				riders = append(riders, impl.Rider{From: from, To: to, State: state})
			}
		}
	}
	return riders
}

// everyParties calls f for all lists of so many riders out of some.
func everyParties(many int, some []impl.Rider, f func(riders []impl.Rider)) {
	for _, numbers := range listsOf(many, everyNumber(len(some))) {
		riders := make([]impl.Rider, many)
		for i, number := range numbers {
			riders[i] = some[number]
		}
		f(riders)
	}
}

// shortTrips calls f for all trips of up to four floors with few riders, also for those that are not valid because of who is in the car.
func shortTrips(f func(t impl.Trip)) {
	for floors, most := range []int{1: 0, 2: 4, 3: 3, 4: 2} {
		some := slices.DeleteFunc(ridersOf(everyNumber(floors), numbersFrom(0, 2)), func(r impl.Rider) bool { return r.From == r.To })
		for many := range most + 1 {
			everyParties(many, some, func(riders []impl.Rider) {
				for _, place := range placesOf(floors) {
					for room := 1; room <= many+1; room++ {
						f(tripOf(floors, room, place, slices.Clone(riders)...))
					}
				}
			})
		}
	}
}

// mixedTrip returns a valid trip that follows no rule, always the same one for a number.
func mixedTrip(floors, room, many int, number uint64) impl.Trip {
	next := func(below int) int {
		number = number*6364136223846793005 + 1442695040888963407
		return int(number >> 40 % uint64(below))
	}
	t := tripOf(floors, room, placesOf(floors)[next(2*floors)])
	for range many {
		from := next(floors)
		r := impl.Rider{From: from, To: (from + 1 + next(floors-1)) % floors, State: next(3)}
		if next(2) == 0 && dirOf(r) == t.Place.Dir && slices.Contains(floorsBefore(r), t.Place.Floor) {
			r.State = impl.RideInside
		}
		t.Riders = append(t.Riders, r)
		if !wantValidTrip(t) {
			t.Riders[len(t.Riders)-1].State = impl.RideWaits
		}
	}
	return t
}

// longTrips calls f for many valid trips of up to MaxFloors floors and MaxRiders riders.
func longTrips(f func(t impl.Trip)) {
	for floors := 2; floors <= impl.MaxFloors; floors++ {
		for _, room := range []int{1, 2, 3, impl.MaxInside} {
			for many := range impl.MaxRiders + 1 {
				for number := range uint64(20) {
					f(mixedTrip(floors, room, many, number))
				}
				waits := mixedTrip(floors, room, many, 77)
				for i := range waits.Riders {
					waits.Riders[i].State = impl.RideWaits
				}
				f(waits)
			}
		}
	}
}

// everyValidTrip calls f for all valid short trips and many long ones.
func everyValidTrip(f func(t impl.Trip)) {
	shortTrips(func(t impl.Trip) {
		if wantValidTrip(t) {
			f(t)
		}
	})
	longTrips(f)
}

// manyTimes returns a rider so many times.
func manyTimes(many int, r impl.Rider) []impl.Rider {
	return slices.Repeat([]impl.Rider{r}, many)
}

// badTrips returns trips that are not valid, each for a reason of its own.
func badTrips() map[string]impl.Trip {
	return map[string]impl.Trip{
		"nothing":                           {},
		"no floors":                         tripOf(0, 1, up(0)),
		"nine floors":                       tripOf(9, 1, up(0)),
		"nine floors, and a rider":          tripOf(9, 1, up(0), waiting(0, 1)),
		"no room":                           tripOf(5, 0, up(0)),
		"no room for a rider":               tripOf(5, 0, up(0), waiting(0, 1)),
		"a room of nine":                    tripOf(5, 9, up(0)),
		"nine riders":                       tripOf(5, 8, up(0), manyTimes(9, waiting(0, 1))...),
		"nine riders who have arrived":      tripOf(5, 8, up(0), manyTimes(9, arrived(0, 1))...),
		"264 riders":                        tripOf(5, 8, up(0), manyTimes(264, waiting(0, 1))...),
		"nowhere":                           tripOf(5, 1, up(0), waiting(2, 2)),
		"nowhere, arrived":                  tripOf(5, 1, up(0), arrived(2, 2)),
		"nowhere, in the car":               tripOf(5, 1, up(2), inside(2, 2)),
		"nowhere, the last one of eight":    tripOf(5, 1, up(0), append(manyTimes(7, waiting(0, 1)), waiting(4, 4))...),
		"two in the car":                    tripOf(5, 1, up(0), inside(0, 1), inside(0, 2)),
		"three in the car":                  tripOf(5, 2, up(1), inside(0, 2), waiting(0, 2), inside(1, 2), arrived(0, 1), inside(0, 4)),
		"eight in the car":                  tripOf(5, 7, up(0), manyTimes(8, inside(0, 1))...),
		"down in a car that goes up":        tripOf(5, 1, up(2), inside(4, 0)),
		"up in a car that goes down":        tripOf(5, 1, down(2), inside(0, 4)),
		"down, from the place":              tripOf(5, 1, up(2), inside(2, 0)),
		"up, from the place":                tripOf(5, 1, down(2), inside(2, 4)),
		"both directions":                   tripOf(5, 2, up(2), inside(0, 4), inside(4, 0)),
		"not yet at From":                   tripOf(5, 1, up(0), inside(1, 4)),
		"not yet at From, downward":         tripOf(5, 1, down(4), inside(3, 0)),
		"far from From":                     tripOf(8, 1, up(0), inside(6, 7)),
		"far from From, downward":           tripOf(8, 1, down(7), inside(1, 0)),
		"at To":                             tripOf(5, 1, up(4), inside(0, 4)),
		"at To, downward":                   tripOf(5, 1, down(0), inside(4, 0)),
		"at To in the middle":               tripOf(5, 1, up(2), inside(1, 2)),
		"behind To":                         tripOf(5, 1, up(3), inside(0, 2)),
		"behind To, downward":               tripOf(5, 1, down(1), inside(4, 2)),
		"one who is right, and one at To":   tripOf(5, 2, up(2), inside(1, 3), inside(1, 2)),
		"one floor, and a rider":            tripOf(1, 1, up(0), waiting(0, 0)),
		"one floor, and a rider to another": tripOf(1, 1, up(0), waiting(0, 1)),
	}
}

// tripsOutOfBounds calls f for trips that are not valid because of one number that is out of its bounds.
func tripsOutOfBounds(f func(t impl.Trip)) {
	good := tripOf(5, 2, up(1), waiting(1, 4), inside(0, 3), arrived(2, 0))
	for _, number := range []int{math.MinInt, -1 << 32, -8, -1, 0, 9, 10, 264, 1 << 32, 1<<32 + 5, math.MaxInt} {
		t := copyOfTrip(good)
		t.Floors = number
		f(t)
		t = copyOfTrip(good)
		t.Room = number
		f(t)
	}
	for _, place := range badPlaces(good.Floors) {
		t := copyOfTrip(good)
		t.Place = place
		f(t)
	}
	for i := range good.Riders {
		for _, floor := range []int{math.MinInt, math.MinInt + 1, -1 << 32, -5, -1, 5, 6, 7, 8, 1 << 32, math.MaxInt - 1, math.MaxInt} {
			t := copyOfTrip(good)
			t.Riders[i].From = floor
			f(t)
			t = copyOfTrip(good)
			t.Riders[i].To = floor
			f(t)
		}
		for _, state := range []int{math.MinInt, -1 << 32, -2, -1, 3, 4, 1 << 32, 1<<32 + 1, math.MaxInt} {
			t := copyOfTrip(good)
			t.Riders[i].State = state
			f(t)
		}
	}
}

// everyBadTrip calls f for many trips that are not valid.
func everyBadTrip(f func(t impl.Trip)) {
	for _, t := range badTrips() {
		f(t)
	}
	tripsOutOfBounds(f)
	shortTrips(func(t impl.Trip) {
		if !wantValidTrip(t) {
			f(t)
		}
	})
}

func TestRiderConstants(t *testing.T) {
	if impl.MaxRiders != 8 || impl.RideWaits != 0 || impl.RideInside != 1 || impl.RideDone != 2 {
		t.Errorf("MaxRiders is %d, RideWaits %d, RideInside %d, and RideDone %d", impl.MaxRiders, impl.RideWaits, impl.RideInside, impl.RideDone)
	}
}

func TestTripValidByHand(t *testing.T) {
	for why, x := range map[string]impl.Trip{
		"one floor":                        tripOf(1, 1, up(0)),
		"one floor, downward":              tripOf(1, 8, down(0)),
		"eight floors":                     tripOf(8, 8, down(7)),
		"no riders":                        tripOf(5, 1, up(4)),
		"upward at the highest floor":      tripOf(5, 1, up(4), waiting(4, 0)),
		"downward at the lowest floor":     tripOf(5, 1, down(0), waiting(0, 4)),
		"eight riders":                     tripOf(5, 1, up(0), manyTimes(8, waiting(4, 0))...),
		"eight riders in a room of eight":  tripOf(8, 8, up(6), manyTimes(8, inside(0, 7))...),
		"a full car":                       tripOf(5, 1, up(2), inside(0, 4), waiting(2, 4)),
		"in the car at From":               tripOf(5, 1, up(2), inside(2, 4)),
		"in the car at From, downward":     tripOf(5, 1, down(2), inside(2, 0)),
		"one floor before To":              tripOf(5, 1, up(3), inside(0, 4)),
		"one floor before To, downward":    tripOf(5, 1, down(1), inside(4, 0)),
		"at From and one floor before To":  tripOf(5, 1, up(3), inside(3, 4)),
		"all who are not in the car":       tripOf(5, 1, up(2), waiting(4, 3), waiting(0, 1), arrived(0, 4), arrived(4, 2), waiting(2, 1)),
		"from the ends of a high building": tripOf(8, 2, up(3), inside(0, 7), waiting(7, 0)),
	} {
		if !impl.TripValid(x) {
			t.Errorf("%s: %v is not valid", why, x)
		}
	}
	for why, x := range badTrips() {
		if impl.TripValid(x) {
			t.Errorf("%s: %v is valid", why, x)
		}
	}
}

func TestTripValidForNumbersOutOfBounds(t *testing.T) {
	tripsOutOfBounds(func(x impl.Trip) {
		if impl.TripValid(x) {
			t.Fatalf("%v is valid", x)
		}
	})
}

func TestTripValidIsThatOfTheDocument(t *testing.T) {
	check := func(x impl.Trip) {
		if got, want := impl.TripValid(x), wantValidTrip(x); got != want {
			t.Fatalf("TripValid(%v) = %v", x, got)
		}
	}
	shortTrips(check)
	longTrips(check)
	for floors := -1; floors <= impl.MaxFloors+1; floors++ {
		for room := -1; room <= impl.MaxInside+1; room++ {
			for _, floor := range numbersFrom(-2, impl.MaxFloors+2) {
				for _, dir := range numbersFrom(-2, 2) {
					check(tripOf(floors, room, impl.Stop{Floor: floor, Dir: dir}))
				}
			}
		}
	}
	for floors := 1; floors <= impl.MaxFloors; floors++ {
		for _, r := range ridersOf(numbersFrom(-1, floors), numbersFrom(-1, 3)) {
			for _, place := range placesOf(floors) {
				check(tripOf(floors, 1, place, r))
				check(tripOf(floors, 8, place, append(manyTimes(7, waiting(0, floors-1)), r)...))
			}
		}
	}
}

func TestP80WithAllRidersDoneAValidTripIsValid(t *testing.T) {
	everyValidTrip(func(x impl.Trip) {
		for many := range len(x.Riders) {
			y := copyOfTrip(x)
			for i := range many + 1 {
				y.Riders[i].State = impl.RideDone
			}
			if !impl.TripValid(y) {
				t.Fatalf("%v is not valid", y)
			}
		}
	})
}

func TestP80WithoutRidersAValidTripIsValid(t *testing.T) {
	everyValidTrip(func(x impl.Trip) {
		for many := range x.Riders {
			y := copyOfTrip(x)
			y.Riders = y.Riders[:many]
			if !impl.TripValid(y) {
				t.Fatalf("%v is not valid", y)
			}
		}
		x.Riders = nil
		if !impl.TripValid(x) {
			t.Fatalf("%v is not valid", x)
		}
	})
}

func TestP80WithOneWhoGoesNowhereATripIsNotValid(t *testing.T) {
	everyValidTrip(func(x impl.Trip) {
		for i := range x.Riders {
			y := copyOfTrip(x)
			y.Riders[i].To = y.Riders[i].From
			if impl.TripValid(y) {
				t.Fatalf("%v is valid", y)
			}
		}
		if len(x.Riders) == impl.MaxRiders {
			return
		}
		for floor := range x.Floors {
			y := copyOfTrip(x)
			y.Riders = append(y.Riders, arrived(floor, floor))
			if impl.TripValid(y) {
				t.Fatalf("%v is valid", y)
			}
		}
	})
}

func TestTripCallsByHand(t *testing.T) {
	for _, c := range []struct {
		why  string
		trip impl.Trip
		want string
	}{
		{"one floor", tripOf(1, 1, up(0)), "0/0/0"},
		{"no riders", tripOf(5, 1, up(2)), "00000/00000/00000"},
		{"all riders done", tripOf(5, 1, up(2), arrived(0, 4), arrived(4, 0)), "00000/00000/00000"},
		{"one up", tripOf(5, 1, up(2), waiting(0, 4)), "10000/00000/00000"},
		{"one down", tripOf(5, 1, up(2), waiting(4, 3)), "00000/00001/00000"},
		{"one in the car", tripOf(5, 2, up(2), inside(1, 4)), "00000/00000/00001"},
		{"one in the car, downward", tripOf(5, 2, down(2), inside(4, 0)), "00000/00000/10000"},
		{"both directions from one floor", tripOf(5, 1, up(0), waiting(2, 4), waiting(2, 1)), "00100/00100/00000"},
		{"many from one floor", tripOf(5, 1, up(0), waiting(2, 4), waiting(2, 3), waiting(2, 4)), "00100/00000/00000"},
		{"a car that is not full", tripOf(5, 2, up(1), inside(0, 3), waiting(1, 2), waiting(4, 0)), "01000/00001/00010"},
		{"a full car", tripOf(5, 1, up(1), inside(0, 3), waiting(1, 2), waiting(4, 0)), "00000/00000/00010"},
		{"a full car to three floors", tripOf(5, 3, up(1), inside(0, 3), waiting(1, 2), inside(1, 4), waiting(0, 1), inside(0, 2)), "00000/00000/00111"},
		{"a car with one place left", tripOf(5, 3, up(1), inside(0, 3), waiting(1, 2), inside(1, 3), waiting(0, 1)), "11000/00000/00010"},
		{"a room of eight", tripOf(8, 8, up(0), manyTimes(8, inside(0, 7))...), "00000000/00000000/00000001"},
		{"seven in a room of eight", tripOf(8, 8, up(0), append(manyTimes(7, inside(0, 7)), waiting(7, 6))...), "00000000/00000001/00000001"},
		{"one who has arrived keeps no room", tripOf(5, 1, up(1), arrived(0, 1), waiting(1, 2)), "01000/00000/00000"},
	} {
		if got := textOf(impl.TripCalls(c.trip)); got != c.want {
			t.Errorf("%s: TripCalls(%v) = %q, not %q", c.why, c.trip, got, c.want)
		}
	}
}

func TestTripCallsAreThoseOfTheDocument(t *testing.T) {
	everyValidTrip(func(x impl.Trip) {
		got, want := impl.TripCalls(x), wantTripCalls(x)
		if !sameCalls(got, want) || !impl.CallsValid(got) {
			t.Fatalf("TripCalls(%v) = %q, not %q", x, textOf(got), textOf(want))
		}
	})
}

func TestP81ThereAreCallsExactlyIfARiderHasNotArrived(t *testing.T) {
	everyValidTrip(func(x impl.Trip) {
		c := impl.TripCalls(x)
		if somebody := inState(x.Riders, impl.RideDone) < len(x.Riders); !impl.CallsValid(c) || (impl.CallsMany(c) > 0) != somebody {
			t.Fatalf("TripCalls(%v) = %q", x, textOf(c))
		}
	})
}

func TestP81NoCallOfAFullCarIsFromAFloor(t *testing.T) {
	full := 0
	everyValidTrip(func(x impl.Trip) {
		if inState(x.Riders, impl.RideInside) < x.Room {
			return
		}
		full++
		if c := impl.TripCalls(x); slices.Contains(slices.Concat(c.Up, c.Down), true) || !slices.Contains(c.Car, true) {
			t.Fatalf("TripCalls(%v) = %q", x, textOf(c))
		}
	})
	if full == 0 {
		t.Error("there is no full car")
	}
}

func TestTripStepByHand(t *testing.T) {
	for _, c := range []struct {
		why        string
		trip, want impl.Trip
	}{
		{"one gets in where the car is", tripOf(5, 1, up(2), waiting(2, 4)), tripOf(5, 1, up(2), inside(2, 4))},
		{"one gets in who goes back", tripOf(5, 1, up(2), waiting(2, 0)), tripOf(5, 1, down(2), inside(2, 0))},
		{"one gets out", tripOf(5, 1, up(2), inside(1, 4)), tripOf(5, 1, up(4), arrived(1, 4))},
		{"one gets out, downward", tripOf(5, 1, down(2), inside(4, 0)), tripOf(5, 1, down(0), arrived(4, 0))},
		{"in the car at From", tripOf(5, 1, up(2), inside(2, 3)), tripOf(5, 1, up(3), arrived(2, 3))},
		{"one floor before To", tripOf(5, 1, up(3), inside(0, 4)), tripOf(5, 1, up(4), arrived(0, 4))},
		{"two get out at one floor", tripOf(5, 3, up(1), inside(0, 3), inside(0, 4), inside(1, 3)), tripOf(5, 3, up(3), arrived(0, 3), inside(0, 4), arrived(1, 3))},
		{"a full car passes who waits", tripOf(5, 1, up(1), inside(0, 4), waiting(1, 2), waiting(2, 3), waiting(3, 4)), tripOf(5, 1, up(4), arrived(0, 4), waiting(1, 2), waiting(2, 3), waiting(3, 4))},
		{"a full car takes nobody else in", tripOf(5, 2, up(0), inside(0, 4), inside(0, 2), waiting(0, 1)), tripOf(5, 2, up(2), inside(0, 4), arrived(0, 2), waiting(0, 1))},
		{"one gets out, and another one in", tripOf(5, 1, up(1), waiting(3, 4), inside(0, 3)), tripOf(5, 1, up(3), inside(3, 4), arrived(0, 3))},
		{"one gets out, and another one in, downward", tripOf(5, 1, down(3), inside(4, 2), waiting(2, 0)), tripOf(5, 1, down(2), arrived(4, 2), inside(2, 0))},
		{"one gets out, and one of two gets in", tripOf(5, 1, up(1), inside(0, 3), waiting(3, 4), waiting(3, 4)), tripOf(5, 1, up(3), arrived(0, 3), inside(3, 4), waiting(3, 4))},
		{"two get out, and two of three get in", tripOf(6, 3, up(1), waiting(3, 5), inside(0, 3), waiting(3, 4), inside(1, 5), waiting(3, 4), inside(1, 3)), tripOf(6, 3, up(3), inside(3, 5), arrived(0, 3), inside(3, 4), inside(1, 5), waiting(3, 4), arrived(1, 3))},
		{"in their order", tripOf(5, 2, up(0), waiting(1, 4), waiting(1, 3), waiting(1, 2)), tripOf(5, 2, up(1), inside(1, 4), inside(1, 3), waiting(1, 2))},
		{"in their order, the others between", tripOf(5, 2, up(0), waiting(1, 0), waiting(1, 2), waiting(2, 3), waiting(1, 3), waiting(1, 4)), tripOf(5, 2, up(1), waiting(1, 0), inside(1, 2), waiting(2, 3), inside(1, 3), waiting(1, 4))},
		{"both directions, upward", tripOf(5, 8, up(0), waiting(2, 4), waiting(2, 0), waiting(2, 3)), tripOf(5, 8, up(2), inside(2, 4), waiting(2, 0), inside(2, 3))},
		{"both directions, downward", tripOf(5, 8, down(4), waiting(2, 4), waiting(2, 0), waiting(2, 3)), tripOf(5, 8, down(2), waiting(2, 4), inside(2, 0), waiting(2, 3))},
		{"one gets out, and one who goes back waits on", tripOf(5, 1, up(0), inside(0, 2), waiting(2, 1)), tripOf(5, 1, up(2), arrived(0, 2), waiting(2, 1))},
		{"one gets out at the top, and one who goes back waits on", tripOf(5, 1, up(0), inside(0, 4), waiting(4, 1)), tripOf(5, 1, up(4), arrived(0, 4), waiting(4, 1))},
		{"the car goes on for one in it, though another one wants to go back", tripOf(5, 2, up(2), inside(0, 4), waiting(2, 0), waiting(3, 0)), tripOf(5, 2, up(4), arrived(0, 4), waiting(2, 0), waiting(3, 0))},
		{"one behind the car is fetched at last", tripOf(5, 2, up(2), inside(0, 3), waiting(1, 4)), tripOf(5, 2, up(3), arrived(0, 3), waiting(1, 4))},
		{"the farthest one who goes back", tripOf(5, 1, up(0), waiting(2, 1), waiting(4, 0)), tripOf(5, 1, down(4), waiting(2, 1), inside(4, 0))},
		{"who has arrived stays", tripOf(5, 2, up(0), arrived(1, 0), arrived(1, 2), waiting(1, 2)), tripOf(5, 2, up(1), arrived(1, 0), arrived(1, 2), inside(1, 2))},
		{"eight riders in a room of eight", tripOf(8, 8, down(7), manyTimes(8, waiting(0, 7))...), tripOf(8, 8, up(0), manyTimes(8, inside(0, 7))...)},
		{"eight riders out of a room of eight", tripOf(8, 8, up(6), manyTimes(8, inside(0, 7))...), tripOf(8, 8, up(7), manyTimes(8, arrived(0, 7))...)},
		{"eight riders in a room of one", tripOf(8, 1, up(3), manyTimes(8, waiting(7, 0))...), tripOf(8, 1, down(7), append([]impl.Rider{inside(7, 0)}, manyTimes(7, waiting(7, 0))...)...)},
	} {
		if got, ok := impl.TripStep(c.trip); !ok || !sameTrip(got, c.want) {
			t.Errorf("%s: TripStep(%v) = %v, %v, not %v", c.why, c.trip, got, ok, c.want)
		}
	}
}

func TestTripStepIsThatOfTheDocument(t *testing.T) {
	everyValidTrip(func(x impl.Trip) {
		want, wantOk := wantTripStep(x)
		if got, ok := impl.TripStep(x); ok != wantOk || !sameTrip(got, want) {
			t.Fatalf("TripStep(%v) = %v, %v, not %v, %v", x, got, ok, want, wantOk)
		}
	})
}

func TestTripStepWithoutANextStop(t *testing.T) {
	for floors := 1; floors <= impl.MaxFloors; floors++ {
		for _, place := range placesOf(floors) {
			x := tripOf(floors, 3, place)
			for many := range impl.MaxRiders + 1 {
				if many > 0 && floors > 1 {
					x.Riders = append(x.Riders, arrived(many%floors, (many+1)%floors))
				}
				if got, ok := impl.TripStep(x); ok || !sameTrip(got, x) {
					t.Fatalf("TripStep(%v) = %v, %v", x, got, ok)
				}
				if impl.TripStops(x) != 0 || !sameTrip(impl.TripEnd(x), x) {
					t.Fatalf("%v has %d stops and ends as %v", x, impl.TripStops(x), impl.TripEnd(x))
				}
			}
		}
	}
}

func TestTripStepLeadsToAValidTripOfTheSameRiders(t *testing.T) {
	everyValidTrip(func(x impl.Trip) {
		y, _ := impl.TripStep(x)
		if !impl.TripValid(y) || y.Floors != x.Floors || y.Room != x.Room || len(y.Riders) != len(x.Riders) {
			t.Fatalf("TripStep(%v) = %v", x, y)
		}
		for i, r := range x.Riders {
			if now := y.Riders[i]; now.From != r.From || now.To != r.To || now.State < r.State || now.State > r.State+1 {
				t.Fatalf("TripStep(%v) = %v", x, y)
			}
		}
	})
}

func TestP14NobodyIsCarriedAway(t *testing.T) {
	everyValidTrip(func(x impl.Trip) {
		y, _ := impl.TripStep(x)
		for i, r := range x.Riders {
			if r.State != impl.RideInside || y.Riders[i].State != impl.RideInside {
				continue
			}
			if before, behind := distance(x.Place.Floor, r.To), distance(y.Place.Floor, r.To); behind > before {
				t.Fatalf("TripStep(%v) = %v: the rider %d is %d floors away and then %d", x, y, i, before, behind)
			}
		}
	})
}

func TestP14NobodyWhoIsThereStaysInTheCar(t *testing.T) {
	everyValidTrip(func(x impl.Trip) {
		y, _ := impl.TripStep(x)
		for i, r := range y.Riders {
			if r.State == impl.RideInside && (r.To == y.Place.Floor || dirOf(r) != y.Place.Dir) {
				t.Fatalf("TripStep(%v) = %v: the rider %d is carried away", x, y, i)
			}
			if r.State != x.Riders[i].State && r.State == impl.RideDone && r.To != y.Place.Floor {
				t.Fatalf("TripStep(%v) = %v: the rider %d gets out elsewhere", x, y, i)
			}
			if r.State != x.Riders[i].State && r.State == impl.RideInside && r.From != y.Place.Floor {
				t.Fatalf("TripStep(%v) = %v: the rider %d gets in elsewhere", x, y, i)
			}
		}
	})
}

func TestP14AtEveryStopSomebodyGetsInOrOut(t *testing.T) {
	everyValidTrip(func(x impl.Trip) {
		y, ok := impl.TripStep(x)
		if ok == slices.Equal(x.Riders, y.Riders) {
			t.Fatalf("TripStep(%v) = %v, %v", x, y, ok)
		}
	})
}

func TestP14NeverAreThereMoreRidersThanRoom(t *testing.T) {
	everyValidTrip(func(x impl.Trip) {
		for y, ok := impl.TripStep(x); ok; y, ok = impl.TripStep(y) {
			if inState(y.Riders, impl.RideInside) > y.Room || y.Room != x.Room {
				t.Fatalf("%v becomes %v", x, y)
			}
		}
	})
}

func TestTripStopsByHand(t *testing.T) {
	three := []impl.Rider{waiting(1, 4), waiting(1, 3), waiting(2, 0)}
	for _, c := range []struct {
		why  string
		trip impl.Trip
		want int
	}{
		{"one floor", tripOf(1, 1, up(0)), 0},
		{"no riders", tripOf(5, 1, up(2)), 0},
		{"all riders done", tripOf(5, 1, up(2), arrived(0, 4), arrived(4, 0)), 0},
		{"one waits", tripOf(5, 1, up(2), waiting(0, 4)), 2},
		{"one waits where the car is", tripOf(5, 1, up(2), waiting(2, 4)), 2},
		{"one in the car", tripOf(5, 1, up(2), inside(2, 4)), 1},
		{"a room of one", tripOf(5, 1, up(0), three...), 6},
		{"a room of two", tripOf(5, 2, up(0), three...), 5},
		{"two of the same way", tripOf(5, 2, up(0), waiting(1, 4), waiting(1, 4)), 2},
		{"two of the same way, one after the other", tripOf(5, 1, up(0), waiting(1, 4), waiting(1, 4)), 4},
		{"one out and one in at a floor", tripOf(5, 1, up(0), waiting(0, 2), waiting(2, 4)), 3},
		{"one out and one in at the top", tripOf(5, 1, up(0), waiting(0, 4), waiting(4, 0)), 4},
		{"both directions", tripOf(5, 8, up(0), waiting(2, 4), waiting(2, 0)), 4},
		{"eight riders in a room of eight", tripOf(8, 8, down(7), manyTimes(8, waiting(0, 7))...), 2},
		{"eight riders in a room of one", tripOf(8, 1, down(7), manyTimes(8, waiting(0, 7))...), 16},
		{"eight riders in the car", tripOf(8, 8, up(0), inside(0, 1), inside(0, 2), inside(0, 3), inside(0, 4), inside(0, 5), inside(0, 6), inside(0, 7), inside(0, 7)), 7},
	} {
		if got := impl.TripStops(c.trip); got != c.want {
			t.Errorf("%s: TripStops(%v) = %d, not %d", c.why, c.trip, got, c.want)
		}
	}
}

func TestP15InTheEndEverybodyArrives(t *testing.T) {
	everyValidTrip(func(x impl.Trip) {
		got, most := impl.TripStops(x), 2*inState(x.Riders, impl.RideWaits)+inState(x.Riders, impl.RideInside)
		if got < 0 || got > most || got == 0 && most > 0 {
			t.Fatalf("TripStops(%v) = %d", x, got)
		}
	})
}

func TestP15ThereIsOneStopLessAfterTheNextOne(t *testing.T) {
	everyValidTrip(func(x impl.Trip) {
		want := impl.TripStops(x)
		y, ok := impl.TripStep(x)
		if ok {
			want--
		}
		if got := impl.TripStops(y); got != want {
			t.Fatalf("TripStops(%v) = %d, and %d after %v", x, impl.TripStops(x), got, y)
		}
	})
}

func TestP15TheStopsAreThoseOfTheDocument(t *testing.T) {
	everyValidTrip(func(x impl.Trip) {
		want := 0
		for y, ok := wantTripStep(x); ok; y, ok = wantTripStep(y) {
			want++
		}
		if got := impl.TripStops(x); got != want {
			t.Fatalf("TripStops(%v) = %d, not %d", x, got, want)
		}
	})
}

func TestTripEndByHand(t *testing.T) {
	for _, c := range []struct {
		why        string
		trip, want impl.Trip
	}{
		{"one floor", tripOf(1, 1, down(0)), tripOf(1, 1, down(0))},
		{"no riders", tripOf(5, 1, up(2)), tripOf(5, 1, up(2))},
		{"all riders done", tripOf(5, 1, up(2), arrived(0, 4)), tripOf(5, 1, up(2), arrived(0, 4))},
		{"one waits", tripOf(5, 1, up(2), waiting(4, 1)), tripOf(5, 1, down(1), arrived(4, 1))},
		{"one in the car", tripOf(5, 1, up(2), inside(2, 4)), tripOf(5, 1, up(4), arrived(2, 4))},
		{"a room of one", tripOf(5, 1, up(0), waiting(1, 4), waiting(1, 3), waiting(2, 0)), tripOf(5, 1, up(3), arrived(1, 4), arrived(1, 3), arrived(2, 0))},
		{"a room of two", tripOf(5, 2, up(0), waiting(1, 4), waiting(1, 3), waiting(2, 0)), tripOf(5, 2, down(0), arrived(1, 4), arrived(1, 3), arrived(2, 0))},
		{"eight riders", tripOf(8, 1, down(7), manyTimes(8, waiting(0, 7))...), tripOf(8, 1, up(7), manyTimes(8, arrived(0, 7))...)},
	} {
		if got := impl.TripEnd(c.trip); !sameTrip(got, c.want) {
			t.Errorf("%s: TripEnd(%v) = %v, not %v", c.why, c.trip, got, c.want)
		}
	}
}

func TestP16TheEndIsQuiet(t *testing.T) {
	everyValidTrip(func(x impl.Trip) {
		end := impl.TripEnd(x)
		if !impl.TripValid(end) || len(end.Riders) != len(x.Riders) || inState(end.Riders, impl.RideDone) != len(x.Riders) {
			t.Fatalf("TripEnd(%v) = %v", x, end)
		}
		if again, ok := impl.TripStep(end); ok || !sameTrip(again, end) || impl.TripStops(end) != 0 {
			t.Fatalf("TripEnd(%v) = %v: there is a next stop", x, end)
		}
	})
}

func TestP16TheEndIsThatAfterAllStops(t *testing.T) {
	everyValidTrip(func(x impl.Trip) {
		y := x
		for range impl.TripStops(x) {
			next, ok := impl.TripStep(y)
			if !ok {
				t.Fatalf("TripStops(%v) = %d, but %v is the end", x, impl.TripStops(x), y)
			}
			y = next
		}
		if end := impl.TripEnd(x); !sameTrip(end, y) {
			t.Fatalf("TripEnd(%v) = %v, not %v", x, end, y)
		}
	})
}

func TestTripsOfRidersThatAreNotValid(t *testing.T) {
	everyBadTrip(func(x impl.Trip) {
		if impl.TripValid(x) {
			t.Fatalf("%v is valid", x)
		}
		if c := impl.TripCalls(x); !sameCalls(c, impl.Calls{}) {
			t.Fatalf("TripCalls(%v) = %v", x, c)
		}
		if y, ok := impl.TripStep(x); ok || !sameTrip(y, impl.Trip{}) {
			t.Fatalf("TripStep(%v) = %v, %v", x, y, ok)
		}
		if stops := impl.TripStops(x); stops != -1 {
			t.Fatalf("TripStops(%v) = %d", x, stops)
		}
		if end := impl.TripEnd(x); !sameTrip(end, impl.Trip{}) {
			t.Fatalf("TripEnd(%v) = %v", x, end)
		}
	})
}

func TestTripsShareNoMemory(t *testing.T) {
	everyValidTrip(func(x impl.Trip) {
		before := copyOfTrip(x)
		next, _ := impl.TripStep(x)
		wantNextTrip := copyOfTrip(next)
		end := impl.TripEnd(x)
		spoil(impl.TripCalls(x))
		ownMemory(t, impl.TripCalls(x))
		spoilTrip(end)
		if !sameTrip(x, before) || !sameTrip(next, wantNextTrip) {
			t.Fatalf("TripEnd(%v) shares memory", before)
		}
		spoilTrip(next)
		if !sameTrip(x, before) {
			t.Fatalf("TripStep(%v) shares memory with its argument", before)
		}
		if again, _ := impl.TripStep(x); !sameTrip(again, wantNextTrip) {
			t.Fatalf("TripStep(%v) = %v after a result was written to", before, again)
		}
	})
}

func TestTripsAreNotWrittenTo(t *testing.T) {
	check := func(x impl.Trip) {
		// Behind the last rider there is spare room, which is not to be written to either.
		whole := append(slices.Clone(x.Riders), waiting(0, 1), inside(0, 1))
		before := slices.Clone(whole)
		x.Riders = whole[:len(x.Riders)]
		impl.TripValid(x)
		impl.TripCalls(x)
		next, _ := impl.TripStep(x)
		impl.TripStops(x)
		end := impl.TripEnd(x)
		spoilTrip(next)
		spoilTrip(end)
		if !slices.Equal(whole, before) {
			t.Fatalf("the riders %v became %v", before, whole)
		}
	}
	everyValidTrip(check)
	everyBadTrip(check)
}
