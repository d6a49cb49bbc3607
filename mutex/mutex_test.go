package mutex

import (
	"fmt"
	"math"
	"slices"
	"testing"
)

// most is the greatest number of a session of which the chapter promises something.
const most = 1 << 30

// text is all that a value has; nil and empty lists are one in it.
func text(x any) string {
	return fmt.Sprintf("%v", x)
}

// sessions are some that are in the lists of allLists, some that aren't, and the greatest.
func sessions() []int {
	return []int{0, 1, 2, 3, 7, 1 << 16, most - 1, most}
}

// noPlaces are places that a list of that length hasn't.
func noPlaces(length int) []int {
	return []int{
		math.MinInt, math.MinInt + 1, -1 << 32, -length - 1, -2, -1,
		length, length + 1, length + 2, 2*length + 1, 1 << 32, math.MaxInt - 1, math.MaxInt,
	}
}

// allLists calls check with all lists of at most four locks that nobody, or one of the sessions 0, 1, 2 or the greatest has.
func allLists(check func(l []int)) {
	locks := []int{0, 1, 2, 3, most + 1}
	total := 1
	for length := range 5 {
		for n := range total {
			l := make([]int, length)
			for place := range l {
				l[place] = locks[n%len(locks)]
				n /= len(locks)
			}
			check(l)
		}
		total *= len(locks)
	}
}

// changed is a new list like l, but for the lock of one place.
func changed(l []int, place, lock int) []int {
	c := slices.Clone(l)
	c[place] = lock
	return c
}

func checkTake(t *testing.T, l []int, place, who int, want []int, ok bool) []int {
	t.Helper()
	got, gotOk := Take(l, place, who)
	if gotOk != ok || !slices.Equal(got, want) {
		t.Errorf("Take of %v, %d, %d is %v, %v, not %v, %v", l, place, who, got, gotOk, want, ok)
	}
	return got
}

func checkGive(t *testing.T, l []int, place, who int, want []int, ok bool) []int {
	t.Helper()
	got, gotOk := Give(l, place, who)
	if gotOk != ok || !slices.Equal(got, want) {
		t.Errorf("Give of %v, %d, %d is %v, %v, not %v, %v", l, place, who, got, gotOk, want, ok)
	}
	return got
}

func checkHolder(t *testing.T, l []int, place, want int, ok bool) {
	t.Helper()
	if got, gotOk := Holder(l, place); got != want || gotOk != ok {
		t.Errorf("Holder of %v, %d is %d, %v, not %d, %v", l, place, got, gotOk, want, ok)
	}
}

func checkHeld(t *testing.T, l []int, who int, want ...int) {
	t.Helper()
	if got := Held(l, who); !slices.Equal(got, want) {
		t.Errorf("Held of %v, %d is %v, not %v", l, who, got, want)
	}
}

// P15.1, Take

func TestTakeTwiceFailsTheSecondTime(t *testing.T) {
	l := checkTake(t, []int{0}, 0, 0, []int{1}, true)
	checkTake(t, l, 0, 0, []int{1}, false)
	checkTake(t, l, 0, 1, []int{1}, false)
}

func TestTake(t *testing.T) {
	for _, x := range []struct {
		why        string
		l          []int
		place, who int
		want       []int
		ok         bool
	}{
		{"the only one, free", []int{0}, 0, 4, []int{5}, true},
		{"the first, free", []int{0, 3, 9}, 0, 1, []int{2, 3, 9}, true},
		{"one in the middle, free", []int{4, 0, 9}, 1, 1, []int{4, 2, 9}, true},
		{"the last, free", []int{4, 3, 0}, 2, 1, []int{4, 3, 2}, true},
		{"one of many free", []int{0, 0, 0, 0}, 2, 0, []int{0, 0, 1, 0}, true},
		{"one more", []int{2, 0, 2}, 1, 1, []int{2, 2, 2}, true},
		{"that somebody else has", []int{0, 3, 0}, 1, 1, []int{0, 3, 0}, false},
		{"that the session one less has", []int{0, 2, 0}, 1, 2, []int{0, 2, 0}, false},
		{"that the session 0 has", []int{1, 0}, 0, 1, []int{1, 0}, false},
		{"that the greatest has", []int{most + 1, 0}, 0, 0, []int{most + 1, 0}, false},
		{"that who has already", []int{0, 2, 0}, 1, 1, []int{0, 2, 0}, false},
		{"that the session 0 has already", []int{1, 0}, 0, 0, []int{1, 0}, false},
		{"that the greatest has already", []int{most + 1, 0}, 0, most, []int{most + 1, 0}, false},
		{"of the session 0", []int{0, 0}, 1, 0, []int{0, 1}, true},
		{"of the greatest", []int{0, 0}, 1, most, []int{0, most + 1}, true},
		{"a place below 0", []int{0, 0}, -1, 1, []int{0, 0}, false},
		{"at the length", []int{0, 0}, 2, 1, []int{0, 0}, false},
		{"above the length", []int{0, 0}, 3, 1, []int{0, 0}, false},
		{"the least place", []int{0, 0}, math.MinInt, 1, []int{0, 0}, false},
		{"the greatest place", []int{0, 0}, math.MaxInt, 1, []int{0, 0}, false},
		{"of none", nil, 0, 1, nil, false},
		{"of an empty list", []int{}, 0, 1, nil, false},
		{"of an empty list with room", []int{0, 0}[:0], 0, 1, nil, false},
		{"of an empty list, below 0", nil, -1, 0, nil, false},
	} {
		got, ok := Take(x.l, x.place, x.who)
		if ok != x.ok || !slices.Equal(got, x.want) {
			t.Errorf("%s: Take of %v, %d, %d is %v, %v", x.why, x.l, x.place, x.who, got, ok)
		}
	}
}

func TestTakeOfAllShortLists(t *testing.T) {
	allLists(func(l []int) {
		for _, who := range sessions() {
			for place, lock := range l {
				if lock == 0 {
					checkTake(t, l, place, who, changed(l, place, who+1), true)
				} else {
					checkTake(t, l, place, who, l, false)
				}
			}
			for _, place := range noPlaces(len(l)) {
				checkTake(t, l, place, who, l, false)
			}
		}
	})
}

// P15.1, Give

func TestGive(t *testing.T) {
	for _, x := range []struct {
		why        string
		l          []int
		place, who int
		want       []int
		ok         bool
	}{
		{"the only one", []int{5}, 0, 4, []int{0}, true},
		{"the first", []int{2, 3, 9}, 0, 1, []int{0, 3, 9}, true},
		{"one in the middle", []int{4, 2, 9}, 1, 1, []int{4, 0, 9}, true},
		{"the last", []int{4, 3, 2}, 2, 1, []int{4, 3, 0}, true},
		{"one of many that who has", []int{2, 2, 2}, 1, 1, []int{2, 0, 2}, true},
		{"of the session 0", []int{1, 1}, 1, 0, []int{1, 0}, true},
		{"of the greatest", []int{most + 1, 0}, 0, most, []int{0, 0}, true},
		{"that somebody else has", []int{0, 3, 2}, 1, 1, []int{0, 3, 2}, false},
		{"that the session one less has", []int{0, 2, 0}, 1, 2, []int{0, 2, 0}, false},
		{"that the session one more has", []int{0, 2, 0}, 1, 0, []int{0, 2, 0}, false},
		{"that the greatest has", []int{most + 1, 1}, 0, 0, []int{most + 1, 1}, false},
		{"that nobody has", []int{0, 2, 0}, 0, 1, []int{0, 2, 0}, false},
		{"that nobody has, of the session 0", []int{0, 1, 0}, 0, 0, []int{0, 1, 0}, false},
		{"that nobody has, of the greatest", []int{0, most + 1, 0}, 2, most, []int{0, most + 1, 0}, false},
		{"a place below 0", []int{2, 2}, -1, 1, []int{2, 2}, false},
		{"at the length", []int{2, 2}, 2, 1, []int{2, 2}, false},
		{"above the length", []int{2, 2}, 3, 1, []int{2, 2}, false},
		{"the least place", []int{2, 2}, math.MinInt, 1, []int{2, 2}, false},
		{"the greatest place", []int{2, 2}, math.MaxInt, 1, []int{2, 2}, false},
		{"of none", nil, 0, 0, nil, false},
		{"of an empty list", []int{}, 0, 0, nil, false},
		{"of an empty list with room", []int{1, 1}[:0], 0, 0, nil, false},
		{"of an empty list, below 0", nil, -1, 0, nil, false},
	} {
		got, ok := Give(x.l, x.place, x.who)
		if ok != x.ok || !slices.Equal(got, x.want) {
			t.Errorf("%s: Give of %v, %d, %d is %v, %v", x.why, x.l, x.place, x.who, got, ok)
		}
	}
}

func TestGiveOfAllShortLists(t *testing.T) {
	allLists(func(l []int) {
		for _, who := range sessions() {
			for place, lock := range l {
				if lock == who+1 {
					checkGive(t, l, place, who, changed(l, place, 0), true)
				} else {
					checkGive(t, l, place, who, l, false)
				}
			}
			for _, place := range noPlaces(len(l)) {
				checkGive(t, l, place, who, l, false)
			}
		}
	})
}

func TestGiveTwiceFailsTheSecondTime(t *testing.T) {
	l := checkGive(t, []int{3, 1}, 0, 2, []int{0, 1}, true)
	checkGive(t, l, 0, 2, []int{0, 1}, false)
}

// P15.2, Holder

func TestHolder(t *testing.T) {
	l := []int{0, 3, 1, 0, 3, most + 1}
	checkHolder(t, l, 0, 0, false)
	checkHolder(t, l, 1, 2, true)
	checkHolder(t, l, 2, 0, true)
	checkHolder(t, l, 3, 0, false)
	checkHolder(t, l, 4, 2, true)
	checkHolder(t, l, 5, most, true)
	for _, place := range noPlaces(len(l)) {
		checkHolder(t, l, place, 0, false)
	}
	for _, place := range []int{math.MinInt, -1, 0, 1, math.MaxInt} {
		checkHolder(t, nil, place, 0, false)
		checkHolder(t, []int{}, place, 0, false)
		checkHolder(t, []int{1, 2}[:0], place, 0, false)
	}
}

func TestHolderOfAllShortLists(t *testing.T) {
	allLists(func(l []int) {
		for place, lock := range l {
			checkHolder(t, l, place, max(lock-1, 0), lock != 0)
		}
		for _, place := range noPlaces(len(l)) {
			checkHolder(t, l, place, 0, false)
		}
	})
}

func TestHolderOfWhatIsTakenAndGivenBack(t *testing.T) {
	for _, who := range sessions() {
		l, _ := Take([]int{1, 0, 2}, 1, who)
		checkHolder(t, l, 1, who, true)
		l, _ = Give(l, 1, who)
		checkHolder(t, l, 1, 0, false)
	}
}

// P15.2, Held

func TestHeld(t *testing.T) {
	l := []int{0, 3, 1, 0, 3, most + 1, 5, 3}
	checkHeld(t, l, 0, 2)
	checkHeld(t, l, 1)
	checkHeld(t, l, 2, 1, 4, 7)
	checkHeld(t, l, 3)
	checkHeld(t, l, 4, 6)
	checkHeld(t, l, 5)
	checkHeld(t, l, most-1)
	checkHeld(t, l, most, 5)
	checkHeld(t, []int{2, 2, 2}, 1, 0, 1, 2)
	checkHeld(t, []int{2, 2, 2}, 2)
	checkHeld(t, []int{0, 0, 0}, 0)
	checkHeld(t, []int{1, 0}, 0, 0)
	checkHeld(t, []int{0, 1}, 0, 1)
	for _, who := range sessions() {
		checkHeld(t, nil, who)
		checkHeld(t, []int{}, who)
		checkHeld(t, []int{1, 2, 3}[:0], who)
		checkHeld(t, []int{who + 1, 0, who + 1, who + 2}, who, 0, 2)
	}
}

func TestHeldOfAllShortLists(t *testing.T) {
	allLists(func(l []int) {
		for _, who := range sessions() {
			var want []int
			for place, lock := range l {
				if lock == who+1 {
					want = append(want, place)
				}
			}
			checkHeld(t, l, who, want...)
		}
	})
}

func TestHeldRisesInWhateverOrderLocksAreTaken(t *testing.T) {
	for step := 1; step < 11; step++ {
		l := make([]int, 11)
		for i := range l {
			l = checkTake(t, l, i*step%11, 3, changed(l, i*step%11, 4), true)
			if held := Held(l, 3); len(held) != i+1 || !slices.IsSorted(held) {
				t.Errorf("Held of %v, 3 is %v", l, held)
			}
		}
		checkHeld(t, l, 3, 0, 1, 2, 3, 4, 5, 6, 7, 8, 9, 10)
	}
}

// TestHolderAndHeldTellTheSame holds the two against each other: whose a lock is, he holds it, and nobody else.
func TestHolderAndHeldTellTheSame(t *testing.T) {
	allLists(func(l []int) {
		for place := range l {
			holder, ok := Holder(l, place)
			for _, who := range sessions() {
				if slices.Contains(Held(l, who), place) != (ok && holder == who) {
					t.Errorf("of %v, %d Holder is %d, %v, and Held of %d %v", l, place, holder, ok, who, Held(l, who))
				}
			}
		}
	})
}

// P15.3

func TestWhatIsTakenAndGivenBackIsAsItWas(t *testing.T) {
	allLists(func(l []int) {
		for _, who := range sessions() {
			for place := range l {
				if taken, ok := Take(l, place, who); ok {
					checkGive(t, taken, place, who, l, true)
				}
				if given, ok := Give(l, place, who); ok {
					checkTake(t, given, place, who, l, true)
				}
			}
		}
	})
}

func TestWhatIsTakenNobodyElseTakesOrGives(t *testing.T) {
	allLists(func(l []int) {
		for _, who := range sessions() {
			for place := range l {
				taken, ok := Take(l, place, who)
				if !ok {
					continue
				}
				for _, other := range sessions() {
					checkTake(t, taken, place, other, taken, false)
					if other != who {
						checkGive(t, taken, place, other, taken, false)
					}
				}
			}
		}
	})
}

// checkOthers holds against each other what all but who have, in two lists of locks, and what who has, but for one place.
func checkOthers(t *testing.T, what string, before, after []int, place, who int) {
	t.Helper()
	if len(after) != len(before) {
		t.Fatalf("%s of %v, %d, %d is %v", what, before, place, who, after)
	}
	for p := range before {
		a, aOk := Holder(before, p)
		b, bOk := Holder(after, p)
		if p != place && (a != b || aOk != bOk) {
			t.Errorf("%s of %v, %d, %d is %v: the lock %d changed", what, before, place, who, after, p)
		}
	}
	for _, other := range sessions() {
		if other != who && !slices.Equal(Held(before, other), Held(after, other)) {
			t.Errorf("%s of %v, %d, %d is %v: the locks of %d changed", what, before, place, who, after, other)
		}
	}
}

func TestNobodyElsesLockChanges(t *testing.T) {
	allLists(func(l []int) {
		for _, who := range sessions() {
			for place := -1; place < len(l)+2; place++ {
				taken, _ := Take(l, place, who)
				checkOthers(t, "Take", l, taken, place, who)
				given, _ := Give(l, place, who)
				checkOthers(t, "Give", l, given, place, who)
			}
		}
	})
}

// TestManyTakeAndGive goes a long way from one list to the next, beside a plain account of who has what.
func TestManyTakeAndGive(t *testing.T) {
	for seed := range 40 {
		l, account := make([]int, 14), make([]int, 14)
		n := seed
		for range 500 {
			n = (n*1103515245 + 12345) % (1 << 31)
			place, who, give := n>>8%16-1, n>>13%4*(most/3), n>>16%2 == 0
			there := place >= 0 && place < 14
			switch {
			case give && there && account[place] == who+1:
				l = checkGive(t, l, place, who, changed(account, place, 0), true)
				account[place] = 0
			case give:
				l = checkGive(t, l, place, who, account, false)
			case there && account[place] == 0:
				l = checkTake(t, l, place, who, changed(account, place, who+1), true)
				account[place] = who + 1
			default:
				l = checkTake(t, l, place, who, account, false)
			}
		}
	}
}

// P15.4

// roomy is a list like this one, with room behind its length in which something stands.
func roomy(l []int) []int {
	return append(slices.Clone(l), 0, 3, 0, 1)[:len(l)]
}

// whole is a list with the room behind its length.
func whole(l []int) []int {
	return l[:cap(l)]
}

// fill writes all over a list, the room behind its length included.
func fill(l []int, with int) {
	for i := range whole(l) {
		whole(l)[i] = with
	}
}

// tight is a list like this one, without room behind its length.
func tight(l []int) []int {
	return slices.Clip(slices.Clone(l))
}

// allCalls calls check for all places, these and some sessions, with two lists that are alike, one with room behind its length and one without.
func allCalls(check func(l []int, place, who int)) {
	allLists(func(l []int) {
		for _, who := range []int{0, 1, 2, most} {
			for place := -1; place < len(l)+2; place++ {
				check(roomy(l), place, who)
				check(tight(l), place, who)
			}
		}
	})
}

func TestLocksStay(t *testing.T) {
	allCalls(func(l []int, place, who int) {
		before := text(whole(l))
		Take(l, place, who)
		Give(l, place, who)
		Holder(l, place)
		Held(l, who)
		if after := text(whole(l)); after != before {
			t.Errorf("by calls of %d, %d the locks became %s, and were %s", place, who, after, before)
		}
	})
}

// TestRoomBehindIsNoPlace: what stands behind a list's length is no lock, be it free or taken.
func TestRoomBehindIsNoPlace(t *testing.T) {
	allLists(func(l []int) {
		l = roomy(l)
		for place := len(l); place < len(l)+6; place++ {
			for _, who := range sessions() {
				checkTake(t, l, place, who, l, false)
				checkGive(t, l, place, who, l, false)
			}
			checkHolder(t, l, place, 0, false)
		}
		for _, who := range sessions() {
			if held := Held(l, who); len(held) > 0 && held[len(held)-1] >= len(l) {
				t.Errorf("Held of %v, %d is %v", l, who, held)
			}
		}
	})
}

// checkApart writes into a call's answer, which is to be new memory, and then into what was handed in.
func checkApart(t *testing.T, what string, l, got []int) {
	t.Helper()
	before := text(whole(l))
	answer := slices.Clone(got)
	_ = append(got, -7)
	if after := text(whole(l)); after != before {
		t.Errorf("by adding to what %s answered the locks became %s, and were %s", what, after, before)
	}
	fill(got, -8)
	if after := text(whole(l)); after != before {
		t.Errorf("by writing into what %s answered the locks became %s, and were %s", what, after, before)
	}
	copy(got, answer)
	fill(l, -9)
	if !slices.Equal(got, answer) {
		t.Errorf("by writing into what was handed in the answer of %s became %v, and was %v", what, got, answer)
	}
}

func TestWhatTakeAnswersIsNew(t *testing.T) {
	allCalls(func(l []int, place, who int) {
		if got, ok := Take(l, place, who); ok {
			checkApart(t, "Take", l, got)
		}
	})
}

func TestWhatGiveAnswersIsNew(t *testing.T) {
	allCalls(func(l []int, place, who int) {
		if got, ok := Give(l, place, who); ok {
			checkApart(t, "Give", l, got)
		}
	})
}

func TestWhatHeldAnswersIsNew(t *testing.T) {
	allCalls(func(l []int, place, who int) {
		checkApart(t, "Held", l, Held(l, who))
	})
}

func TestTwoAnswersShareNothing(t *testing.T) {
	allCalls(func(l []int, place, who int) {
		var answers [][]int
		for range 2 {
			answers = append(answers, Held(l, who))
			if taken, ok := Take(l, place, who); ok {
				answers = append(answers, taken)
			}
			if given, ok := Give(l, place, who); ok {
				answers = append(answers, given)
			}
		}
		for i, one := range answers {
			before := text(answers[i+1:])
			fill(one, -9)
			if after := text(answers[i+1:]); after != before {
				t.Errorf("of %v, %d, %d: by writing into one answer others became %s, and were %s", l, place, who, after, before)
			}
		}
	})
}

func TestWhateverIsHandedInNothingPanics(t *testing.T) {
	numbers := []int{math.MinInt, math.MinInt + 1, -1 << 32, -2, -1, 0, 1, 2, 1 << 32, math.MaxInt - 1, math.MaxInt}
	for _, l := range [][]int{nil, {}, {0}, numbers} {
		for _, place := range numbers {
			for _, who := range numbers {
				before := text(l)
				Take(l, place, who)
				Give(l, place, who)
				Holder(l, place)
				Held(l, who)
				if after := text(l); after != before {
					t.Errorf("by calls of %d, %d the locks became %s, and were %s", place, who, after, before)
				}
			}
		}
	}
}
