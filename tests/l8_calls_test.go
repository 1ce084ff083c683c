package tests

import (
	"math"
	"slices"
	"strings"
	"testing"

	"loop.example/elevators/impl"
)

// everyKind holds the kinds of calls, in the order of the rows.
var everyKind = []int{impl.CallUp, impl.CallDown, impl.CallCar}

// badKinds holds kinds that are none, on both sides.
var badKinds = []int{math.MinInt, -3, -1, 3, 4, 1 << 32, math.MaxInt}

// callsOf returns calls with a row for each text: 1 for a call, and anything else for none.
func callsOf(up, down, car string) impl.Calls {
	return impl.Calls{Up: truths(up), Down: truths(down), Car: truths(car)}
}

func truths(text string) []bool {
	var row []bool
	for _, b := range []byte(text) {
		row = append(row, b == '1')
	}
	return row
}

func rowOf(c *impl.Calls, kind int) []bool {
	return [][]bool{c.Up, c.Down, c.Car}[kind]
}

func sameCalls(a, b impl.Calls) bool {
	return slices.Equal(a.Up, b.Up) && slices.Equal(a.Down, b.Down) && slices.Equal(a.Car, b.Car)
}

func copyOfCalls(c impl.Calls) impl.Calls {
	return impl.Calls{Up: slices.Clone(c.Up), Down: slices.Clone(c.Down), Car: slices.Clone(c.Car)}
}

// withCall returns a copy with one truth changed, also where there can be no call.
func withCall(c impl.Calls, kind, floor int, to bool) impl.Calls {
	changed := copyOfCalls(c)
	rowOf(&changed, kind)[floor] = to
	return changed
}

// canCall tells whether there can be a call of a kind at one of so many floors.
func canCall(floors, kind, floor int) bool {
	return (kind != impl.CallUp || floor != floors-1) && (kind != impl.CallDown || floor != 0)
}

// callsFrom returns calls of so many floors, which are valid: whether there is each of the calls that can be, in the order of their texts, is asked for.
func callsFrom(floors int, waits func(number int) bool) impl.Calls {
	c := impl.Calls{Up: make([]bool, floors), Down: make([]bool, floors), Car: make([]bool, floors)}
	number := 0
	for _, kind := range everyKind {
		for floor := range floors {
			if canCall(floors, kind, floor) {
				rowOf(&c, kind)[floor] = waits(number)
				number++
			}
		}
	}
	return c
}

func allCalls(floors int) impl.Calls {
	return callsFrom(floors, func(int) bool { return true })
}

// fewFloors is for how many floors tests go through all calls.
const fewFloors = 4

// everyCallsOf calls f for all valid calls of so many floors.
func everyCallsOf(floors int, f func(c impl.Calls)) {
	for bits := range 1 << (3*floors - 2) {
		f(callsFrom(floors, func(number int) bool { return bits>>number&1 == 1 }))
	}
}

// someCallsOf calls f for valid calls of so many floors: none, all, one, all but one, and those whose numbers have divisors.
func someCallsOf(floors int, f func(c impl.Calls)) {
	for one := range 3*floors - 2 {
		f(callsFrom(floors, func(number int) bool { return number == one }))
		f(callsFrom(floors, func(number int) bool { return number != one }))
		f(callsFrom(floors, func(number int) bool { return number%(one+1) == 0 }))
		f(callsFrom(floors, func(number int) bool { return number*number%(one+1) < number%5 }))
	}
	f(callsFrom(floors, func(int) bool { return false }))
	f(allCalls(floors))
}

// everyCalls calls f for all valid calls of a few floors and some of up to MaxFloors floors.
func everyCalls(f func(c impl.Calls)) {
	for floors := 1; floors <= impl.MaxFloors; floors++ {
		if floors <= fewFloors {
			everyCallsOf(floors, f)
		} else {
			someCallsOf(floors, f)
		}
	}
}

// everyCallPlace calls f for all kinds and floors of calls, also where there can be no call.
func everyCallPlace(c impl.Calls, f func(kind, floor int)) {
	for _, kind := range everyKind {
		for floor := range c.Up {
			f(kind, floor)
		}
	}
}

// badCalls returns calls that are not valid, each for a reason of its own.
func badCalls() map[string]impl.Calls {
	return map[string]impl.Calls{
		"nothing":                     {},
		"empty rows":                  {Up: []bool{}, Down: []bool{}, Car: []bool{}},
		"no row up":                   callsOf("", "000", "000"),
		"no row down":                 callsOf("000", "", "000"),
		"no row of the car":           callsOf("000", "000", ""),
		"only a row up":               callsOf("000", "", ""),
		"only a row down":             callsOf("", "000", ""),
		"only a row of the car":       callsOf("", "", "000"),
		"short row up":                callsOf("10", "000", "000"),
		"short row down":              callsOf("000", "01", "000"),
		"short row of the car":        callsOf("000", "000", "11"),
		"long row up":                 callsOf("0000", "000", "000"),
		"long row down":               callsOf("000", "0000", "000"),
		"long row of the car":         callsOf("000", "000", "0000"),
		"nine floors":                 callsOf("000000000", "000000000", "000000000"),
		"nine floors with a call":     callsOf("000000000", "000000000", "000000001"),
		"nine floors up":              callsOf("000000000", "00000000", "00000000"),
		"nine floors down":            callsOf("00000000", "000000000", "00000000"),
		"nine floors of the car":      callsOf("00000000", "00000000", "000000000"),
		"many floors":                 callsOf(strings.Repeat("0", 264), strings.Repeat("0", 264), strings.Repeat("0", 264)),
		"up from the highest":         callsOf("001", "000", "000"),
		"up from the highest of all":  callsOf("00000001", "00000000", "00000000"),
		"down from the lowest":        callsOf("000", "100", "000"),
		"down from the lowest of all": callsOf("00000000", "10000000", "00000000"),
		"beyond both ends":            callsOf("001", "100", "000"),
		"all truths":                  callsOf("111", "111", "111"),
		"one floor, up":               callsOf("1", "0", "0"),
		"one floor, down":             callsOf("0", "1", "0"),
		"one floor, everything":       callsOf("1", "1", "1"),
	}
}

func TestCallConstants(t *testing.T) {
	if impl.CallUp != 0 || impl.CallDown != 1 || impl.CallCar != 2 {
		t.Errorf("CallUp is %d, CallDown %d, and CallCar %d", impl.CallUp, impl.CallDown, impl.CallCar)
	}
}

func TestCallsByHand(t *testing.T) {
	tests := []struct {
		c    impl.Calls
		many int
		text string
	}{
		{callsOf("0", "0", "0"), 0, "0/0/0"},
		{callsOf("0", "0", "1"), 1, "0/0/1"},
		{callsOf("00", "00", "00"), 0, "00/00/00"},
		{callsOf("10", "00", "00"), 1, "10/00/00"},
		{callsOf("00", "01", "00"), 1, "00/01/00"},
		{callsOf("10", "01", "11"), 4, "10/01/11"},
		{callsOf("010", "001", "110"), 4, "010/001/110"},
		{callsOf("110", "011", "111"), 7, "110/011/111"},
		{callsOf("00000010", "01000000", "10000001"), 4, "00000010/01000000/10000001"},
		{callsOf("11111110", "01111111", "11111111"), 22, "11111110/01111111/11111111"},
	}
	for _, x := range tests {
		if !impl.CallsValid(x.c) || impl.CallsMany(x.c) != x.many || impl.CallsText(x.c) != x.text {
			t.Errorf("%v: valid %v, %d calls, text %q", x.c, impl.CallsValid(x.c), impl.CallsMany(x.c), impl.CallsText(x.c))
		}
	}
}

func TestCallsThatAreNotValid(t *testing.T) {
	for why, c := range badCalls() {
		if impl.CallsValid(c) || impl.CallsMany(c) != -1 || impl.CallsText(c) != "" {
			t.Errorf("%s: valid %v, %d calls, text %q", why, impl.CallsValid(c), impl.CallsMany(c), impl.CallsText(c))
		}
		for kind := -1; kind <= 3; kind++ {
			for floor := -1; floor <= len(c.Up)+1; floor++ {
				for _, to := range []bool{false, true} {
					if got, ok := impl.CallSet(c, kind, floor, to); ok || !sameCalls(got, impl.Calls{}) {
						t.Errorf("%s: CallSet(%d, %d, %v) = %v, %v", why, kind, floor, to, got, ok)
					}
				}
			}
		}
	}
}

func TestCallsValidForAllRows(t *testing.T) {
	var rows [][]bool
	for floors := range 4 {
		for bits := range 1 << floors {
			row := make([]bool, floors)
			for floor := range row {
				row[floor] = bits>>floor&1 == 1
			}
			rows = append(rows, row)
		}
	}
	for _, up := range rows {
		for _, down := range rows {
			for _, car := range rows {
				c := impl.Calls{Up: up, Down: down, Car: car}
				want := len(up) > 0 && len(up) == len(down) && len(down) == len(car) && !up[len(up)-1] && !down[0]
				if impl.CallsValid(c) != want {
					t.Fatalf("CallsValid(%v) = %v", c, !want)
				}
			}
		}
	}
}

func TestCallsValidForRowsOfAllLengths(t *testing.T) {
	for up := range 12 {
		for down := range 12 {
			for car := range 12 {
				c := impl.Calls{Up: make([]bool, up), Down: make([]bool, down), Car: make([]bool, car)}
				want := up == down && down == car && up >= 1 && up <= impl.MaxFloors
				if impl.CallsValid(c) != want {
					t.Fatalf("CallsValid is %v for %d, %d and %d floors", !want, up, down, car)
				}
			}
		}
	}
}

func TestP71NobodyGoesBeyondTheEnds(t *testing.T) {
	everyCalls(func(c impl.Calls) {
		if !impl.CallsValid(c) {
			t.Fatalf("%v are not valid", c)
		}
		everyCallPlace(c, func(kind, floor int) {
			changed := withCall(c, kind, floor, true)
			if impl.CallsValid(changed) != canCall(len(c.Up), kind, floor) {
				t.Fatalf("CallsValid(%v) = %v", changed, impl.CallsValid(changed))
			}
		})
	})
}

func TestP71WithoutAnyCallsTheyAreValid(t *testing.T) {
	for floors := 1; floors <= impl.MaxFloors; floors++ {
		c := impl.Calls{Up: make([]bool, floors), Down: make([]bool, floors), Car: make([]bool, floors)}
		if !impl.CallsValid(c) || !impl.CallsValid(impl.CallsNone(floors)) {
			t.Errorf("no calls of %d floors are not valid", floors)
		}
	}
}

func TestP72NoCallsAreNone(t *testing.T) {
	for floors := 1; floors <= impl.MaxFloors; floors++ {
		c := impl.CallsNone(floors)
		if len(c.Up) != floors || len(c.Down) != floors || len(c.Car) != floors || impl.CallsMany(c) != 0 {
			t.Errorf("CallsNone(%d) = %v", floors, c)
		}
		if slices.Contains(slices.Concat(c.Up, c.Down, c.Car), true) {
			t.Errorf("CallsNone(%d) = %v", floors, c)
		}
	}
}

func TestCallsNoneForNumbersOutOfRange(t *testing.T) {
	for _, floors := range []int{math.MinInt, math.MinInt + 1, -8, -2, -1, 0, 9, 10, 16, 1 << 32, math.MaxInt} {
		if c := impl.CallsNone(floors); !sameCalls(c, impl.Calls{}) {
			t.Errorf("CallsNone(%d) = %v", floors, c)
		}
	}
}

func TestCallSetByHand(t *testing.T) {
	c := callsOf("010", "001", "110")
	one := callsOf("0", "0", "0")
	tests := []struct {
		c           impl.Calls
		kind, floor int
		to          bool
		want        impl.Calls
		ok          bool
	}{
		{c, impl.CallUp, 0, true, callsOf("110", "001", "110"), true},
		{c, impl.CallUp, 1, true, c, true},
		{c, impl.CallUp, 1, false, callsOf("000", "001", "110"), true},
		{c, impl.CallUp, 2, true, c, false},
		{c, impl.CallUp, 2, false, c, true},
		{c, impl.CallDown, 0, true, c, false},
		{c, impl.CallDown, 0, false, c, true},
		{c, impl.CallDown, 1, true, callsOf("010", "011", "110"), true},
		{c, impl.CallDown, 1, false, c, true},
		{c, impl.CallDown, 2, false, callsOf("010", "000", "110"), true},
		{c, impl.CallCar, 0, false, callsOf("010", "001", "010"), true},
		{c, impl.CallCar, 2, true, callsOf("010", "001", "111"), true},
		{c, impl.CallCar, 2, false, c, true},
		{c, impl.CallCar, 3, true, c, false},
		{c, impl.CallCar, -1, true, c, false},
		{c, 3, 0, true, c, false},
		{c, -1, 0, true, c, false},
		{c, -1, 0, false, c, false},
		{one, impl.CallUp, 0, true, one, false},
		{one, impl.CallUp, 0, false, one, true},
		{one, impl.CallDown, 0, true, one, false},
		{one, impl.CallDown, 0, false, one, true},
		{one, impl.CallCar, 0, true, callsOf("0", "0", "1"), true},
		{one, impl.CallCar, 0, false, one, true},
		{one, impl.CallCar, 1, false, one, false},
	}
	for _, x := range tests {
		if got, ok := impl.CallSet(x.c, x.kind, x.floor, x.to); ok != x.ok || !sameCalls(got, x.want) {
			t.Errorf("CallSet(%v, %d, %d, %v) = %v, %v", x.c, x.kind, x.floor, x.to, got, ok)
		}
	}
}

// callSets calls f with what CallSet makes of all calls at all places, set and taken away.
func callSets(f func(c, got impl.Calls, ok bool, kind, floor int, to bool)) {
	everyCalls(func(c impl.Calls) {
		everyCallPlace(c, func(kind, floor int) {
			for _, to := range []bool{false, true} {
				got, ok := impl.CallSet(c, kind, floor, to)
				f(c, got, ok, kind, floor, to)
			}
		})
	})
}

func TestP73ACallChangesOneFloor(t *testing.T) {
	callSets(func(c, got impl.Calls, ok bool, kind, floor int, to bool) {
		want, wantOk := withCall(c, kind, floor, to), true
		if to && !canCall(len(c.Up), kind, floor) {
			want, wantOk = c, false
		}
		if ok != wantOk || !sameCalls(got, want) {
			t.Fatalf("CallSet(%v, %d, %d, %v) = %v, %v", c, kind, floor, to, got, ok)
		}
	})
}

func TestP73SetToWhatItWasTheCallsAreThoseBefore(t *testing.T) {
	callSets(func(c, got impl.Calls, ok bool, kind, floor int, to bool) {
		was := rowOf(&c, kind)[floor]
		if to == was && (!ok || !sameCalls(got, c)) {
			t.Fatalf("CallSet(%v, %d, %d, %v) = %v, %v", c, kind, floor, to, got, ok)
		}
		if back, ok := impl.CallSet(got, kind, floor, was); !ok || !sameCalls(back, c) {
			t.Fatalf("%v set back to %v at %d, %d are %v, %v, not %v", got, was, kind, floor, back, ok, c)
		}
	})
}

func TestP73ThereIsOneCallMoreOneLessOrAsMany(t *testing.T) {
	callSets(func(c, got impl.Calls, ok bool, kind, floor int, to bool) {
		want, was := impl.CallsMany(c), rowOf(&c, kind)[floor]
		if ok && to && !was {
			want++
		} else if ok && !to && was {
			want--
		}
		if many := impl.CallsMany(got); many != want {
			t.Fatalf("%v become %v: %d calls, not %d", c, got, many, want)
		}
	})
}

func TestCallSetForKindsAndFloorsThatAreNone(t *testing.T) {
	everyCalls(func(c impl.Calls) {
		refused := func(kind, floor int) {
			for _, to := range []bool{false, true} {
				if got, ok := impl.CallSet(c, kind, floor, to); ok || !sameCalls(got, c) {
					t.Fatalf("CallSet(%v, %d, %d, %v) = %v, %v", c, kind, floor, to, got, ok)
				}
			}
		}
		floors := len(c.Up)
		badFloors := []int{math.MinInt, -floors, -1, floors, floors + 1, impl.MaxFloors, impl.MaxFloors + 1, 1 << 32, math.MaxInt}
		for _, kind := range everyKind {
			for _, floor := range badFloors {
				refused(kind, floor)
			}
		}
		for _, kind := range badKinds {
			for _, floor := range []int{-1, 0, floors - 1, floors} {
				refused(kind, floor)
			}
		}
	})
}

func TestP74EveryCallIsCounted(t *testing.T) {
	everyCalls(func(c impl.Calls) {
		many := 0
		everyCallPlace(c, func(kind, floor int) {
			if rowOf(&c, kind)[floor] {
				many++
			} else if canCall(len(c.Up), kind, floor) {
				if more := impl.CallsMany(withCall(c, kind, floor, true)); more != impl.CallsMany(c)+1 {
					t.Fatalf("%v, and one more at %d, %d: %d calls", c, kind, floor, more)
				}
			}
		})
		if got := impl.CallsMany(c); got != many {
			t.Fatalf("CallsMany(%v) = %d", c, got)
		}
	})
}

func TestP74AllCallsThatThereCanBeAreCounted(t *testing.T) {
	for floors := 1; floors <= impl.MaxFloors; floors++ {
		c := impl.CallsNone(floors)
		many := 0
		everyCallPlace(c, func(kind, floor int) {
			if next, ok := impl.CallSet(c, kind, floor, true); ok {
				c = next
				many++
			}
			if impl.CallsMany(c) != many {
				t.Fatalf("CallsMany(%v) = %d", c, impl.CallsMany(c))
			}
		})
		if many != 3*floors-2 || !sameCalls(c, allCalls(floors)) {
			t.Errorf("%d floors: all %d calls are %v", floors, many, c)
		}
	}
}

// textOf returns the text of calls, also of those that are not valid.
func textOf(c impl.Calls) string {
	digits := map[bool]string{false: "0", true: "1"}
	text := ""
	for _, kind := range everyKind {
		if kind > 0 {
			text += "/"
		}
		for _, waits := range rowOf(&c, kind) {
			text += digits[waits]
		}
	}
	return text
}

func TestP75TextsOfCallsAreRead(t *testing.T) {
	everyCalls(func(c impl.Calls) {
		text := impl.CallsText(c)
		if text != textOf(c) {
			t.Fatalf("CallsText(%v) = %q", c, text)
		}
		if got, ok := impl.ReadCalls(text); !ok || !sameCalls(got, c) {
			t.Fatalf("ReadCalls(%q) = %v, %v", text, got, ok)
		}
	})
}

// textRefused tells that a text is that of no calls.
func textRefused(t *testing.T, text string) {
	t.Helper()
	if c, ok := impl.ReadCalls(text); ok || !sameCalls(c, impl.Calls{}) {
		t.Fatalf("ReadCalls(%q) = %v, %v", text, c, ok)
	}
}

func TestP76ReadTextsAreCanonical(t *testing.T) {
	known := map[string]bool{}
	longest := 0
	for floors := 1; floors <= 3; floors++ {
		everyCallsOf(floors, func(c impl.Calls) {
			known[textOf(c)] = true
			longest = max(longest, len(textOf(c)))
		})
	}
	texts := []string{""}
	for length := 0; length <= longest; length++ {
		var longer []string
		for _, text := range texts {
			if !known[text] {
				textRefused(t, text)
			} else if c, ok := impl.ReadCalls(text); !ok || impl.CallsText(c) != text {
				t.Fatalf("ReadCalls(%q) = %v, %v", text, c, ok)
			}
			longer = append(longer, text+"0", text+"1", text+"/")
		}
		texts = longer
	}
}

func TestP76WithASlashBehindATextIsRefused(t *testing.T) {
	everyCalls(func(c impl.Calls) {
		text := impl.CallsText(c)
		for _, more := range []string{"/", "//", "/0", "/" + strings.Repeat("0", len(c.Up)), "/" + text} {
			textRefused(t, text+more)
		}
		for _, more := range []string{"/", "//", "0/", strings.Repeat("0", len(c.Up)) + "/"} {
			textRefused(t, more+text)
		}
	})
}

func TestTextsWithOtherBytesAreRefused(t *testing.T) {
	for _, good := range []string{"0/0/1", "10/01/11", "010/001/110", "11111110/01111111/11111111"} {
		for i := range good {
			for b := range 256 {
				text := []byte(good)
				text[i] = byte(b)
				if !strings.ContainsRune("01/", rune(b)) || (b == '/') != (good[i] == '/') {
					textRefused(t, string(text))
				}
			}
		}
	}
}

func TestTextsThatAreRefused(t *testing.T) {
	texts := []string{
		"", "/", "//", "///", "0", "000", "00/00", "000/000", "0/0", "0/0/", "/0/0", "0//0", "/0/", "0/0/0/0", "000/000/000/000",
		"00/000/000", "000/00/000", "000/000/00", "0000/000/000", "000/0000/000", "000/000/0000", "/000/000", "000//000", "000/000/",
		"000000000/000000000/000000000", "000000000/00000000/00000000", "00000000/00000000/000000000", strings.Repeat("0", 264) + "/0/0",
		"001/000/000", "000/100/000", "001/100/111", "1/0/0", "0/1/0", "1/1/1", "00000001/00000000/00000000", "00000000/10000000/00000000",
		" 0/0/0", "0/0/0 ", "0 /0/0", "0/0/0\n", "0/0/0\x00", "\x00/0/0", "0/0/2", "0/0/a", "0/0/-", "0/0/٠", "０/0/0", "0\\0\\0", "0/0/\xff", "o/o/o",
		"true/true/true", "0,0,0", "[0]/[0]/[0]",
	}
	for _, text := range texts {
		textRefused(t, text)
	}
	for why, c := range badCalls() {
		t.Run(why, func(t *testing.T) { textRefused(t, textOf(c)) })
	}
}

// spoil writes to everything that can be reached from calls, also behind the ends of their rows.
func spoil(c impl.Calls) {
	for _, kind := range everyKind {
		spoilRow(rowOf(&c, kind))
	}
}

func spoilRow(row []bool) {
	row = row[:cap(row)]
	for i := range row {
		row[i] = !row[i]
	}
}

// ownMemory tells that calls share no memory, row with row.
func ownMemory(t *testing.T, c impl.Calls) {
	t.Helper()
	for _, kind := range everyKind {
		before := copyOfCalls(c)
		spoilRow(rowOf(&c, kind))
		for _, other := range everyKind {
			if other != kind && !slices.Equal(rowOf(&c, other), rowOf(&before, other)) {
				t.Fatalf("the rows %d and %d of %v share memory", kind, other, before)
			}
		}
	}
}

func TestCallsHaveTheirOwnMemory(t *testing.T) {
	for floors := 1; floors <= impl.MaxFloors; floors++ {
		ownMemory(t, impl.CallsNone(floors))
		spoil(impl.CallsNone(floors))
		if c := impl.CallsNone(floors); impl.CallsMany(c) != 0 {
			t.Fatalf("CallsNone(%d) = %v", floors, c)
		}
	}
	everyCalls(func(c impl.Calls) {
		text := impl.CallsText(c)
		ownMemory(t, readCalls(text))
		spoil(readCalls(text))
		if got := readCalls(text); !sameCalls(got, c) {
			t.Fatalf("ReadCalls(%q) = %v", text, got)
		}
	})
}

func readCalls(text string) impl.Calls {
	c, _ := impl.ReadCalls(text)
	return c
}

func TestCallSetSharesNoMemory(t *testing.T) {
	callSets(func(c, got impl.Calls, ok bool, kind, floor int, to bool) {
		before := copyOfCalls(c)
		spoil(got)
		if !sameCalls(c, before) {
			t.Fatalf("CallSet(%v, %d, %d, %v) shares memory with its argument", before, kind, floor, to)
		}
		again, _ := impl.CallSet(c, kind, floor, to)
		ownMemory(t, again)
	})
	c := callsOf("010", "001", "110")
	before := copyOfCalls(c)
	for _, kind := range badKinds {
		got, _ := impl.CallSet(c, kind, 0, true)
		spoil(got)
	}
	for _, floor := range []int{-1, 3} {
		got, _ := impl.CallSet(c, impl.CallCar, floor, true)
		spoil(got)
	}
	if !sameCalls(c, before) {
		t.Error("CallSet shares memory with its argument if it is refused")
	}
}

func TestCallsAreNotWrittenTo(t *testing.T) {
	check := func(c impl.Calls) {
		// Behind the end of each row there is spare room, which is not to be written to either.
		whole := impl.Calls{Up: append(slices.Clone(c.Up), true, false), Down: append(slices.Clone(c.Down), true, false), Car: append(slices.Clone(c.Car), true, false)}
		before := copyOfCalls(whole)
		given := impl.Calls{Up: whole.Up[:len(c.Up)], Down: whole.Down[:len(c.Down)], Car: whole.Car[:len(c.Car)]}
		impl.CallsValid(given)
		impl.CallsMany(given)
		impl.CallsText(given)
		for kind := -1; kind <= 3; kind++ {
			for floor := -1; floor <= len(c.Up)+1; floor++ {
				impl.CallSet(given, kind, floor, true)
				impl.CallSet(given, kind, floor, false)
			}
		}
		if !sameCalls(whole, before) {
			t.Fatalf("%v became %v", before, whole)
		}
	}
	everyCalls(check)
	for _, c := range badCalls() {
		check(c)
	}
}
