package sess

import (
	"fmt"
	"math"
	"slices"
	"strings"
	"testing"

	"innkeep/api"
)

// text is all that a session's fields say. It is what the tests hold sessions against each other by, since Same is tested itself.
func text(s api.Sess) string {
	lines := s.Lines
	s.Lines = nil
	return fmt.Sprintf("%+v, lines %q", s, lines)
}

func check(t *testing.T, why string, got, want api.Sess) {
	t.Helper()
	if text(got) != text(want) {
		t.Errorf("%s: the session is\n%s, not\n%s", why, text(got), text(want))
	}
}

// full is a session of which every field says something.
func full() api.Sess {
	return api.Sess{
		Player: 3, Lines: []string{"look", "get 1", "own", "drop 7"}, Next: 1, Phase: 7, Step: 2,
		Cmd:  api.Cmd{Kind: 8, Dir: 1, Item: 2, Box: 3, Who: 4, Gives: []int{5, 6}, Pay: 7, Wants: []int{8, 9}, Fee: 10},
		Foot: []api.Key{{Kind: 2, Id: 1}, {Kind: 1, Id: 3}}, Has: 6,
		Plan: []api.Write{
			{Kind: 2, Id: 1, Num: 4, Place: api.Place{Kind: 1, Id: 3}},
			{Kind: 1, Id: 2, Num: 9, Place: api.Place{Kind: 2, Id: 5}},
		},
		Reply: api.Reply{
			Err: 5, Kind: 9, Room: 1, Players: []int{4, 3}, Coins: 6,
			Items: []api.Seen{{Item: 1, At: api.Place{Kind: 1, Id: 3}}, {Item: 2, At: api.Place{Kind: 2, Id: 1}}},
		},
		Stale: true, Tries: 4, Ver: 8, Room: 5, Copies: []api.Place{{Kind: 1, Id: 2}, {Kind: 2, Id: 3}}, Heads: []int{2, 1}, Purse: 11,
	}
}

// idle is a session between commands whose other fields say something all the same.
func idle() api.Sess {
	s := full()
	s.Phase = 0
	return s
}

// begins are lines of each kind, the command of each, and the phase in which it begins.
var begins = []struct {
	line  string
	c     api.Cmd
	phase int
}{
	{"move north", api.Cmd{Kind: 1}, 1},
	{"move west", api.Cmd{Kind: 1, Dir: 3}, 1},
	{"push 1 north", api.Cmd{Kind: 2, Who: 1}, 1},
	{"push 0 south", api.Cmd{Kind: 2, Dir: 2}, 1},
	{"get 0", api.Cmd{Kind: 3}, 1},
	{"get 1073741824", api.Cmd{Kind: 3, Item: 1 << 30}, 1},
	{"drop 9", api.Cmd{Kind: 4, Item: 9}, 1},
	{"put 10 in 9", api.Cmd{Kind: 5, Item: 10, Box: 9}, 1},
	{"take 9 from 10", api.Cmd{Kind: 6, Item: 9, Box: 10}, 1},
	{"give 10 to 1", api.Cmd{Kind: 7, Item: 10, Who: 1}, 1},
	{"trade 0 give coins 0 for coins 0", api.Cmd{Kind: 8}, 1},
	{"trade 2 give 1 2 coins 5 for coins 0", api.Cmd{Kind: 8, Who: 2, Gives: []int{1, 2}, Pay: 5}, 1},
	{"trade 9 give coins 10 for 9 10 coins 9", api.Cmd{Kind: 8, Who: 9, Pay: 10, Wants: []int{9, 10}, Fee: 9}, 1},
	{"look", api.Cmd{Kind: 9}, 9},
	{"own", api.Cmd{Kind: 10}, 9},
	{"   look", api.Cmd{Kind: 9}, 9},
	{"own   ", api.Cmd{Kind: 10}, 9},
	{"  put   10  in 9 ", api.Cmd{Kind: 5, Item: 10, Box: 9}, 1},
}

// malformed are lines that are no command's.
var malformed = []string{
	"", " ", strings.Repeat(" ", 400), "x", "looks", "LOOK", "Own", "look 1", "own own", "look own", "l ook", "look\n", "\town", "9", "10",
	"move", "move up", "move 0", "push north", "push 1", "get", "get x", "get 05", "get -1", "get +1", "get 1073741825", "get 1 2", "GET 1",
	"drop", "put 10 9", "put 10 in", "take 9 to 10", "give 10", "give 10 in 1", "trade", "trade 0 give coins 0 for coins", "trade 0 give 0 for 0",
	"trade 0 give" + strings.Repeat(" 1", 17) + " coins 0 for coins 0", "\x00", "\xff\xfe", "loo\xc3\xb6k", strings.Repeat("look ", 80), strings.Repeat("y", 401),
}

// P19.1, New

func TestNewOfNoLines(t *testing.T) {
	for _, player := range []int{0, 1, 5, -1, math.MaxInt, math.MinInt} {
		for _, lines := range [][]string{nil, {}, []string{"look", "own"}[:0]} {
			check(t, "no lines", New(api.Script{Player: player, Lines: lines}), api.Sess{Player: player, Phase: 12})
		}
	}
}

func TestNewOfLines(t *testing.T) {
	many := slices.Repeat([]string{"own", "x", "get 1"}, 40)
	for _, player := range []int{0, 1, 5, -1, math.MaxInt, math.MinInt} {
		for _, lines := range [][]string{{""}, {"look"}, {"x"}, {"own", "look"}, {"", ""}, many[:31], many[:32], many[:33], many} {
			check(t, "lines", New(api.Script{Player: player, Lines: lines}), api.Sess{Player: player, Lines: lines})
		}
	}
}

func TestNewOfEachLine(t *testing.T) {
	for _, x := range begins {
		check(t, x.line, New(api.Script{Player: 2, Lines: []string{x.line}}), api.Sess{Player: 2, Lines: []string{x.line}})
	}
	for _, line := range malformed {
		check(t, line, New(api.Script{Player: 2, Lines: []string{line}}), api.Sess{Player: 2, Lines: []string{line}})
	}
}

// P19.1, Open

// among are lists of lines with this one at each place in turn, and where it is. What is around it is other commands, or malformed.
func among(line string) map[int][]string {
	lists := map[int][]string{}
	for place := range 5 {
		lines := []string{"get 77", "", "look", "give 1 to 2", "x", "own"}
		lines[place] = line
		lists[place] = lines
	}
	lists[5] = []string{"x", "own", "get 77", "", "look", line}
	return lists
}

// checkOpen opens the line at each place, in a session of which nothing else says anything, and in one of which every field does.
func checkOpen(t *testing.T, line string, begun func(s api.Sess) api.Sess) {
	t.Helper()
	for place, lines := range among(line) {
		for _, s := range []api.Sess{{}, {Player: 4}, idle()} {
			s.Lines, s.Next = lines, place
			check(t, fmt.Sprintf("%q, the line %d", line, place), Open(s), begun(s))
		}
	}
	alone := api.Sess{Player: 1, Lines: []string{line}}
	check(t, fmt.Sprintf("%q alone", line), Open(alone), begun(alone))
}

func TestOpenOfEachKind(t *testing.T) {
	met := [11]bool{}
	for _, x := range begins {
		met[x.c.Kind] = true
		checkOpen(t, x.line, func(s api.Sess) api.Sess {
			s.Cmd, s.Phase = x.c, x.phase
			return s
		})
	}
	for kind, ok := range met {
		if !ok && kind > 0 {
			t.Errorf("the kind %d isn't opened", kind)
		}
	}
}

func TestOpenOfMalformedLines(t *testing.T) {
	for _, line := range malformed {
		checkOpen(t, line, func(s api.Sess) api.Sess {
			s.Cmd, s.Reply, s.Phase = api.Cmd{}, api.Reply{Err: 2}, 8
			return s
		})
	}
}

func TestOpenOfTheLongestTrade(t *testing.T) {
	side := strings.Repeat(" 1073741824", 16)
	numbers := slices.Repeat([]int{1 << 30}, 16)
	checkOpen(t, "trade 5 give"+side+" coins 1 for"+side+" coins 2", func(s api.Sess) api.Sess {
		s.Cmd, s.Phase = api.Cmd{Kind: 8, Who: 5, Gives: numbers, Pay: 1, Wants: numbers, Fee: 2}, 1
		return s
	})
}

func TestOpenOfManyLines(t *testing.T) {
	var lines []string
	for n := range 200 {
		lines = append(lines, fmt.Sprintf("get %d", n))
	}
	for next := range lines {
		s := api.Sess{Lines: lines, Next: next}
		check(t, "many lines", Open(s), api.Sess{Lines: lines, Next: next, Cmd: api.Cmd{Kind: 3, Item: next}, Phase: 1})
	}
}

// TestOpenLeavesAllOtherFields: what Open doesn't name is as it was, whatever it says.
func TestOpenLeavesAllOtherFields(t *testing.T) {
	for _, x := range others(idle()) {
		if x.isOf("Phase", "Next", "Lines") {
			continue
		}
		got, want := Open(x.s), x.s
		want.Cmd, want.Phase = api.Cmd{Kind: 3, Item: 1}, 1
		check(t, x.path, got, want)
		x.s.Lines = []string{"own", "own 1"}
		got, want = Open(x.s), x.s
		want.Cmd, want.Reply, want.Phase = api.Cmd{}, api.Reply{Err: 2}, 8
		check(t, x.path+", malformed", got, want)
	}
}

// P19.1, Anew

func TestAnew(t *testing.T) {
	want := api.Sess{
		Player: 3, Lines: []string{"look", "get 1", "own", "drop 7"}, Next: 1, Phase: 1, Tries: 4,
		Cmd: api.Cmd{Kind: 8, Dir: 1, Item: 2, Box: 3, Who: 4, Gives: []int{5, 6}, Pay: 7, Wants: []int{8, 9}, Fee: 10},
	}
	check(t, "a full session", Anew(full()), want)
	check(t, "twice", Anew(Anew(full())), want)
	check(t, "three times", Anew(Anew(Anew(full()))), want)
	check(t, "the zero session", Anew(api.Sess{}), api.Sess{Phase: 1})
}

func TestAnewInEachPhase(t *testing.T) {
	want := Anew(full())
	for phase := -1; phase <= 13; phase++ {
		s := full()
		s.Phase = phase
		check(t, fmt.Sprintf("phase %d", phase), Anew(s), want)
	}
}

// TestAnewOfEachField: what stays is as it was, whatever it says; what all else says makes no difference.
func TestAnewOfEachField(t *testing.T) {
	for _, x := range others(full()) {
		want := Anew(full())
		if x.isOf("Player", "Lines", "Next", "Cmd", "Tries") {
			want.Player, want.Lines, want.Next, want.Cmd, want.Tries = x.s.Player, x.s.Lines, x.s.Next, x.s.Cmd, x.s.Tries
		}
		check(t, x.path, Anew(x.s), want)
	}
}

func TestAnewOfEachKind(t *testing.T) {
	for _, x := range begins {
		s := full()
		s.Cmd = x.c
		want := Anew(full())
		want.Cmd = x.c
		check(t, x.line, Anew(s), want)
	}
}

func TestAnewAlongTheLines(t *testing.T) {
	for next := range 6 {
		s := full()
		s.Next = next
		want := Anew(full())
		want.Next = next
		check(t, fmt.Sprintf("next %d", next), Anew(s), want)
	}
}

// P19.1, Close

func TestClose(t *testing.T) {
	lines := []string{"look", "get 1", "own", "drop 7"}
	for next := range 20 {
		want := api.Sess{Player: 3, Lines: lines, Next: next + 1}
		if next >= 3 {
			want.Phase = 12
		}
		for phase := -1; phase <= 13; phase++ {
			s := full()
			s.Next, s.Phase = next, phase
			check(t, fmt.Sprintf("the line %d, phase %d", next, phase), Close(s), want)
		}
	}
}

func TestCloseOfFewAndManyLines(t *testing.T) {
	check(t, "the zero session", Close(api.Sess{}), api.Sess{Next: 1, Phase: 12})
	check(t, "no lines", Close(api.Sess{Lines: []string{}, Next: 7}), api.Sess{Next: 8, Phase: 12})
	for many := 1; many <= 40; many++ {
		lines := slices.Repeat([]string{"look"}, many)
		for next := range many {
			want := api.Sess{Lines: lines, Next: next + 1}
			if next+1 == many {
				want.Phase = 12
			}
			check(t, fmt.Sprintf("the line %d of %d", next, many), Close(api.Sess{Lines: lines, Next: next, Phase: 8}), want)
		}
	}
}

// TestCloseDoesNotCountTheRoomBehindLines: what stands behind a list's length is no line.
func TestCloseDoesNotCountTheRoomBehindLines(t *testing.T) {
	lines := []string{"look", "own", "get 1"}
	check(t, "one line", Close(api.Sess{Lines: lines[:1]}), api.Sess{Lines: lines[:1], Next: 1, Phase: 12})
	check(t, "no lines", New(api.Script{Lines: lines[:0]}), api.Sess{Phase: 12})
}

// TestCloseOfEachField: what stays is as it was, whatever it says; what all else says makes no difference.
func TestCloseOfEachField(t *testing.T) {
	for _, next := range []int{1, 3} {
		first := full()
		first.Next = next
		for _, x := range others(first) {
			want := api.Sess{Player: x.s.Player, Lines: x.s.Lines, Next: x.s.Next + 1}
			if want.Next >= len(want.Lines) {
				want.Phase = 12
			}
			if want.Next > 0 {
				check(t, x.path, Close(x.s), want)
			}
		}
	}
}

func TestCloseOfTheGreatestNumbers(t *testing.T) {
	for _, next := range []int{1<<31 - 2, 1<<31 - 1, 1 << 31, 1<<32 - 1, 1 << 32, math.MaxInt - 1} {
		check(t, fmt.Sprintf("the line %d", next), Close(api.Sess{Lines: []string{"look", "own"}, Next: next}), api.Sess{Lines: []string{"look", "own"}, Next: next + 1, Phase: 12})
	}
	if got := Close(api.Sess{Lines: []string{"look"}, Next: math.MaxInt}); got.Phase != 12 {
		t.Errorf("behind the greatest number the phase is %d", got.Phase)
	}
}
