package ver

import (
	"fmt"
	"math"
	"slices"
	"testing"
)

// most is the greatest version of which the chapter promises something.
const most = 1 << 41

// versions are the least, some about the bounds of smaller numbers, and the greatest, each just once.
func versions() []int {
	return []int{
		0, 1, 2, 3, 4, 5, 6, 7, 8, 99, 100, 127, 128, 255, 256, 1<<16 - 1, 1 << 16,
		1<<31 - 1, 1 << 31, 1<<31 + 1, 1<<32 - 1, 1 << 32, 1<<32 + 1, 1<<32 + 2, 1 << 40, 1<<40 + 1,
		most - 3, most - 2, most - 1, most,
	}
}

// noPlaces are places that a list of that length hasn't.
func noPlaces(length int) []int {
	return []int{
		math.MinInt, math.MinInt + 1, -1 << 32, -length - 1, -2, -1,
		length, length + 1, length + 2, 2*length + 1, 1 << 32, math.MaxInt - 1, math.MaxInt,
	}
}

// allLists calls check with all lists of at most four versions of these: the least, the greatest, and some between.
func allLists(check func(l []int)) {
	vers := []int{0, 1, 2, 7, most - 1, most}
	total := 1
	for length := range 5 {
		for n := range total {
			l := make([]int, length)
			for place := range l {
				l[place] = vers[n%len(vers)]
				n /= len(vers)
			}
			check(l)
		}
		total *= len(vers)
	}
}

// changed is a new list like l, but for the version of one place.
func changed(l []int, place, v int) []int {
	c := slices.Clone(l)
	c[place] = v
	return c
}

func checkOdd(t *testing.T, v int, want bool) {
	t.Helper()
	if got := Odd(v); got != want {
		t.Errorf("Odd of %d is %v, not %v", v, got, want)
	}
}

func checkUp(t *testing.T, l []int, place int, want []int, ok bool) []int {
	t.Helper()
	got, gotOk := Up(l, place)
	if gotOk != ok || !slices.Equal(got, want) {
		t.Errorf("Up of %v, %d is %v, %v, not %v, %v", l, place, got, gotOk, want, ok)
	}
	return got
}

func checkRead(t *testing.T, l []int, place, want int, ok bool) {
	t.Helper()
	if got, gotOk := Read(l, place); got != want || gotOk != ok {
		t.Errorf("Read of %v, %d is %d, %v, not %d, %v", l, place, got, gotOk, want, ok)
	}
}

func checkCalm(t *testing.T, before, after int, want bool) {
	t.Helper()
	if got := Calm(before, after); got != want {
		t.Errorf("Calm of %d, %d is %v, not %v", before, after, got, want)
	}
}

// P17.1, Odd

func TestOdd(t *testing.T) {
	checkOdd(t, 0, false)
	checkOdd(t, 1, true)
	checkOdd(t, 2, false)
	checkOdd(t, 3, true)
	checkOdd(t, 1<<31-1, true)
	checkOdd(t, 1<<31, false)
	checkOdd(t, 1<<32, false)
	checkOdd(t, 1<<32+1, true)
	checkOdd(t, most-1, true)
	checkOdd(t, most, false)
}

func TestOddGoesToAndFro(t *testing.T) {
	for _, first := range []int{0, 1<<16 - 100, 1<<31 - 100, 1<<32 - 100, most - 200} {
		for n := range 200 {
			checkOdd(t, first+n, n%2 == 1)
		}
	}
}

// P17.1, Up

func TestUp(t *testing.T) {
	for _, x := range []struct {
		why   string
		l     []int
		place int
		want  []int
		ok    bool
	}{
		{"the only one", []int{0}, 0, []int{1}, true},
		{"the first", []int{0, 3, 8}, 0, []int{1, 3, 8}, true},
		{"one in the middle", []int{0, 3, 8}, 1, []int{0, 4, 8}, true},
		{"the last", []int{0, 3, 8}, 2, []int{0, 3, 9}, true},
		{"one of many alike", []int{2, 2, 2, 2}, 2, []int{2, 2, 3, 2}, true},
		{"above 31 bits", []int{0, 1<<31 - 1}, 1, []int{0, 1 << 31}, true},
		{"above 32 bits", []int{0, 1<<32 - 1}, 1, []int{0, 1 << 32}, true},
		{"to the greatest", []int{most - 1, 0}, 0, []int{most, 0}, true},
		{"beside the greatest", []int{most, 0}, 1, []int{most, 1}, true},
		{"of the greatest", []int{5, most}, 1, []int{5, most + 1}, true},
		{"a place below 0", []int{0, 3, 8}, -1, []int{0, 3, 8}, false},
		{"further below 0", []int{0, 3, 8}, -3, []int{0, 3, 8}, false},
		{"at the length", []int{0, 3, 8}, 3, []int{0, 3, 8}, false},
		{"above the length", []int{0, 3, 8}, 4, []int{0, 3, 8}, false},
		{"the least place", []int{0, 3, 8}, math.MinInt, []int{0, 3, 8}, false},
		{"the greatest place", []int{0, 3, 8}, math.MaxInt, []int{0, 3, 8}, false},
		{"of none", nil, 0, nil, false},
		{"of none, below 0", nil, -1, nil, false},
		{"of none, further on", nil, 1, nil, false},
		{"of an empty list", []int{}, 0, nil, false},
		{"of an empty list, below 0", []int{}, -1, nil, false},
		{"of an empty list with room", []int{0, 3}[:0], 0, nil, false},
	} {
		got, ok := Up(x.l, x.place)
		if ok != x.ok || !slices.Equal(got, x.want) {
			t.Errorf("%s: Up of %v, %d is %v, %v", x.why, x.l, x.place, got, ok)
		}
	}
}

func TestUpOfAllShortLists(t *testing.T) {
	allLists(func(l []int) {
		for place, v := range l {
			checkUp(t, l, place, changed(l, place, v+1), true)
		}
		for _, place := range noPlaces(len(l)) {
			checkUp(t, l, place, l, false)
		}
	})
}

func TestUpTwiceIsTwoMore(t *testing.T) {
	l := checkUp(t, []int{5, 0, 8}, 1, []int{5, 1, 8}, true)
	l = checkUp(t, l, 1, []int{5, 2, 8}, true)
	checkUp(t, l, 1, []int{5, 3, 8}, true)
}

func TestUpOfOnePlaceBehindAnotherOne(t *testing.T) {
	l := checkUp(t, []int{5, 0, 8}, 0, []int{6, 0, 8}, true)
	l = checkUp(t, l, 2, []int{6, 0, 9}, true)
	l = checkUp(t, l, 3, []int{6, 0, 9}, false)
	l = checkUp(t, l, 1, []int{6, 1, 9}, true)
	checkUp(t, l, 0, []int{7, 1, 9}, true)
}

func TestUpsInEitherOrderMakeTheSame(t *testing.T) {
	allLists(func(l []int) {
		for one := range l {
			for other := range l {
				a, _ := Up(l, one)
				a, _ = Up(a, other)
				b, _ := Up(l, other)
				b, _ = Up(b, one)
				if !slices.Equal(a, b) {
					t.Errorf("of %v, Up of %d and %d is %v, and the other way round %v", l, one, other, a, b)
				}
			}
		}
	})
}

// P17.1, Read

func TestRead(t *testing.T) {
	l := []int{0, 3, 8, most, 1<<32 + 1}
	checkRead(t, l, 0, 0, true)
	checkRead(t, l, 1, 3, true)
	checkRead(t, l, 2, 8, true)
	checkRead(t, l, 3, most, true)
	checkRead(t, l, 4, 1<<32+1, true)
	for _, place := range noPlaces(len(l)) {
		checkRead(t, l, place, 0, false)
	}
	for _, place := range []int{math.MinInt, -1, 0, 1, math.MaxInt} {
		checkRead(t, nil, place, 0, false)
		checkRead(t, []int{}, place, 0, false)
		checkRead(t, []int{4, 5}[:0], place, 0, false)
	}
}

func TestReadOfAllShortLists(t *testing.T) {
	allLists(func(l []int) {
		for place, v := range l {
			checkRead(t, l, place, v, true)
		}
		for _, place := range noPlaces(len(l)) {
			checkRead(t, l, place, 0, false)
		}
	})
}

func TestReadOfWhatIsUp(t *testing.T) {
	allLists(func(l []int) {
		for place := range l {
			up, _ := Up(l, place)
			for p, v := range l {
				if p == place {
					v++
				}
				checkRead(t, up, p, v, true)
			}
		}
	})
}

// P17.2

func TestCalm(t *testing.T) {
	checkCalm(t, 0, 0, true)
	checkCalm(t, 2, 2, true)
	checkCalm(t, 1<<32, 1<<32, true)
	checkCalm(t, most, most, true)
	checkCalm(t, 1, 1, false)
	checkCalm(t, 3, 3, false)
	checkCalm(t, most-1, most-1, false)
	checkCalm(t, 0, 1, false)
	checkCalm(t, 1, 0, false)
	checkCalm(t, 0, 2, false)
	checkCalm(t, 2, 0, false)
	checkCalm(t, 1, 2, false)
	checkCalm(t, 2, 1, false)
	checkCalm(t, 1, 3, false)
	checkCalm(t, 0, 1<<32, false)
	checkCalm(t, 1<<32+2, 2, false)
	checkCalm(t, 0, most, false)
	checkCalm(t, most, most-2, false)
}

func TestCalmOfAllPairs(t *testing.T) {
	for i, before := range versions() {
		for j, after := range versions() {
			checkCalm(t, before, after, i == j && before&1 == 0)
		}
	}
}

func TestTheChaptersExample(t *testing.T) {
	l := checkUp(t, []int{0}, 0, []int{1}, true)
	l = checkUp(t, l, 0, []int{2}, true)
	v, _ := Read(l, 0)
	checkCalm(t, 0, v, false)
}

// P17.3

// checkStory does ups one behind the other, and holds what is calm at any two times against a plain account of which place was upped when.
func checkStory(t *testing.T, first, ups []int) {
	t.Helper()
	story := [][]int{first}
	for _, place := range ups {
		next, ok := Up(story[len(story)-1], place)
		if !ok {
			t.Fatalf("Up of %v, %d isn't", story[len(story)-1], place)
		}
		story = append(story, next)
	}
	for place, even := range first {
		for from := range story {
			odd := (even+count(ups[:from], place))%2 == 1
			for to := from; to < len(story); to++ {
				before, _ := Read(story[from], place)
				after, _ := Read(story[to], place)
				want := !odd && count(ups[from:to], place) == 0
				if Calm(before, after) != want || Calm(after, before) != want {
					t.Errorf("from %v by ups of %v: the place %d at %d and at %d isn't %v", first, ups, place, from, to, want)
				}
			}
		}
	}
}

// count is how often a place is among ups.
func count(ups []int, place int) int {
	n := 0
	for _, p := range ups {
		if p == place {
			n++
		}
	}
	return n
}

func TestCalmAroundAllUps(t *testing.T) {
	for _, first := range [][]int{{0, 0, 0}, {1, 0, 6}, {most - 2, 2, most - 1}} {
		total := 1
		for length := range 7 {
			for n := range total {
				ups := make([]int, length)
				for i := range ups {
					ups[i] = n % 3
					n /= 3
				}
				checkStory(t, first, ups)
			}
			total *= 3
		}
	}
}

func TestCalmAroundManyUps(t *testing.T) {
	for seed := range 40 {
		n, first, ups := seed, make([]int, 14), make([]int, 60)
		for place := range first {
			first[place] = (seed + 3*place) % 5
		}
		for i := range ups {
			n = (n*1103515245 + 12345) % (1 << 31)
			ups[i] = n >> 8 % 14
		}
		checkStory(t, first, ups)
	}
}

// TestCalmAroundChanges: of changes, each of which makes one version odd and then even, a place is calm between two times just if none of its own goes on at either, or between.
func TestCalmAroundChanges(t *testing.T) {
	type change struct{ place, from, to int }
	for _, changes := range [][]change{
		{},
		{{0, 0, 1}},
		{{0, 0, 1}, {1, 2, 3}},
		{{0, 0, 3}, {1, 1, 2}},
		{{0, 0, 2}, {1, 1, 3}},
		{{0, 0, 1}, {0, 2, 3}, {0, 4, 5}},
		{{2, 0, 5}, {0, 1, 2}, {0, 3, 4}},
		{{0, 0, 3}, {1, 1, 4}, {2, 2, 5}},
	} {
		l := []int{4, 0, most - 2}
		story := [][]int{l}
		for time := range 2 * len(changes) {
			for _, c := range changes {
				if c.from == time || c.to == time {
					l, _ = Up(l, c.place)
				}
			}
			story = append(story, l)
		}
		for place := range l {
			for from := range story {
				for to := from; to < len(story); to++ {
					touched := slices.ContainsFunc(changes, func(c change) bool {
						return c.place == place && c.from < to && c.to >= from
					})
					before, _ := Read(story[from], place)
					after, _ := Read(story[to], place)
					checkCalm(t, before, after, !touched)
				}
			}
		}
	}
}

// P17.4

// text is all that a list has, the room behind its length included.
func text(l []int) string {
	return fmt.Sprint(l[:cap(l)])
}

// fill writes all over a list, the room behind its length included.
func fill(l []int, with int) {
	l = l[:cap(l)]
	for i := range l {
		l[i] = with
	}
}

// allCalls calls check for these places, with two lists that are alike: one with room behind its length in which something stands, and one without.
func allCalls(check func(l []int, place int)) {
	allLists(func(l []int) {
		for place := -1; place < len(l)+2; place++ {
			check(append(slices.Clone(l), 0, 3, 0, 1)[:len(l)], place)
			check(slices.Clip(slices.Clone(l)), place)
		}
	})
}

func TestVersionsStay(t *testing.T) {
	allCalls(func(l []int, place int) {
		before := text(l)
		Up(l, place)
		Read(l, place)
		if after := text(l); after != before {
			t.Errorf("by calls of %d the versions became %s, and were %s", place, after, before)
		}
	})
}

// TestRoomBehindIsNoPlace: what stands behind a list's length is no version.
func TestRoomBehindIsNoPlace(t *testing.T) {
	allLists(func(l []int) {
		l = append(slices.Clone(l), 0, 3, 0, 1)[:len(l)]
		for place := len(l); place < len(l)+6; place++ {
			checkUp(t, l, place, l, false)
			checkRead(t, l, place, 0, false)
		}
	})
}

func TestWhatUpAnswersIsNew(t *testing.T) {
	allCalls(func(l []int, place int) {
		got, ok := Up(l, place)
		if !ok {
			return
		}
		before := text(l)
		_ = append(got, -7)
		fill(got, -8)
		if after := text(l); after != before {
			t.Errorf("by writing into what Up answered of %d the versions became %s, and were %s", place, after, before)
		}
		got, _ = Up(l, place)
		answer := slices.Clone(got)
		fill(l, -9)
		if !slices.Equal(got, answer) {
			t.Errorf("by writing into what was handed in the answer of Up of %d became %v, and was %v", place, got, answer)
		}
	})
}

func TestTwoAnswersShareNothing(t *testing.T) {
	allCalls(func(l []int, place int) {
		one, ok := Up(l, place)
		other, _ := Up(l, place)
		if !ok {
			return
		}
		before := text(other)
		fill(one, -9)
		if after := text(other); after != before {
			t.Errorf("of %v, %d: by writing into one answer another one became %s, and was %s", l, place, after, before)
		}
	})
}

// TestUpOfNoPlaceAnswersTheVeryVersions: they are in the same memory, with the same length, and nil stays nil.
func TestUpOfNoPlaceAnswersTheVeryVersions(t *testing.T) {
	allLists(func(l []int) {
		for _, list := range [][]int{l, append(slices.Clone(l), 0, 3, 0, 1)[:len(l)]} {
			for _, place := range noPlaces(len(list)) {
				got, ok := Up(list, place)
				if ok || len(got) != len(list) || cap(got) != cap(list) || cap(got) > 0 && &got[:1][0] != &list[:1][0] {
					t.Errorf("Up of %v, %d is %v, %v, in other memory", list, place, got, ok)
				}
			}
		}
	})
	for _, place := range []int{-1, 0, 1} {
		if got, ok := Up(nil, place); ok || got != nil {
			t.Errorf("Up of nil, %d is %v, %v", place, got, ok)
		}
	}
}

func TestWhateverIsHandedInNothingPanics(t *testing.T) {
	numbers := []int{math.MinInt, math.MinInt + 1, -1 << 32, -2, -1, 0, 1, 2, 1 << 32, math.MaxInt - 1, math.MaxInt}
	for _, l := range [][]int{nil, {}, {0}, numbers} {
		for _, n := range numbers {
			before := text(l)
			Up(l, n)
			Read(l, n)
			Odd(n)
			for _, other := range numbers {
				Calm(n, other)
			}
			if after := text(l); after != before {
				t.Errorf("by calls of %d the versions became %s, and were %s", n, after, before)
			}
		}
	}
}
