package sess

import (
	"fmt"
	"math"
	"slices"
	"testing"

	"innkeep/api"
)

// P19.3: what is handed in stays, and what is answered is new memory, but for Lines.

// withRoom is a list like this one, with room behind its length in which something stands.
func withRoom[T any](list []T, behind T) []T {
	return append(slices.Clone(list), behind, behind, behind)[:len(list)]
}

// whole is a list with the room behind its length.
func whole[T any](list []T) []T {
	return list[:cap(list)]
}

// fill writes all over a list, the room behind its length included.
func fill[T any](list []T, with T) {
	for i := range whole(list) {
		whole(list)[i] = with
	}
	_ = append(list, with)
}

// roomy is a session with such room behind all its lists; what stands there would tell, if it were looked at.
func roomy(s api.Sess) api.Sess {
	s.Lines = withRoom(s.Lines, "drop 5")
	s.Foot, s.Plan = withRoom(s.Foot, api.Key{Kind: 1, Id: 4}), withRoom(s.Plan, api.Write{Kind: 1, Id: 4, Num: 5})
	s.Copies, s.Heads = withRoom(s.Copies, api.Place{Kind: 2, Id: 6}), withRoom(s.Heads, 6)
	s.Cmd.Gives, s.Cmd.Wants = withRoom(s.Cmd.Gives, 6), withRoom(s.Cmd.Wants, 6)
	s.Reply.Players, s.Reply.Items = withRoom(s.Reply.Players, 6), withRoom(s.Reply.Items, api.Seen{Item: 6})
	return s
}

// wholeText is all that a session has, the room behind its lists included.
func wholeText(s api.Sess) string {
	own := s
	own.Foot, own.Plan, own.Copies, own.Heads = whole(s.Foot), whole(s.Plan), whole(s.Copies), whole(s.Heads)
	own.Cmd.Gives, own.Cmd.Wants, own.Reply.Players, own.Reply.Items = whole(s.Cmd.Gives), whole(s.Cmd.Wants), whole(s.Reply.Players), whole(s.Reply.Items)
	own.Lines = whole(s.Lines)
	return text(s) + text(own)
}

// spoilers write all over one list each; the Lines are left out, since nobody writes into them.
func spoilers(s api.Sess) []func() {
	place := api.Place{Kind: -9, Id: -9}
	return []func(){
		func() { fill(s.Foot, api.Key{Kind: -9, Id: -9}) },
		func() { fill(s.Plan, api.Write{Kind: -9, Id: -9, Num: -9, Place: place}) },
		func() { fill(s.Copies, place) },
		func() { fill(s.Heads, -9) },
		func() { fill(s.Cmd.Gives, -9) },
		func() { fill(s.Cmd.Wants, -9) },
		func() { fill(s.Reply.Players, -9) },
		func() { fill(s.Reply.Items, api.Seen{Item: -9, At: place}) },
	}
}

func spoil(s api.Sess) {
	for _, spoilOne := range spoilers(s) {
		spoilOne()
	}
}

// calls are those that make a session of a session.
var calls = map[string]func(api.Sess) api.Sess{"Open": Open, "Anew": Anew, "Close": Close}

// sessions are zero and full ones, about to take up, or under way with, lines of each kind, malformed ones, and none.
func sessions() []api.Sess {
	list := []api.Sess{{}, empty(api.Sess{}), bare(full()), empty(full()), full(), idle()}
	var lines []string
	for _, x := range begins {
		lines = append(lines, x.line)
	}
	lines = append(lines, malformed...)
	for next := range len(lines) + 1 {
		s := idle()
		s.Lines, s.Next = lines, next
		list = append(list, s, api.Sess{Lines: lines, Next: next})
	}
	for _, s := range list[:len(list):len(list)] {
		s.Phase = 7
		list = append(list, s)
	}
	return list
}

// allCalls calls check with each call and each session, with room behind its lists, and with none.
func allCalls(check func(name string, call func(api.Sess) api.Sess, s func() api.Sess)) {
	for name, call := range calls {
		for _, s := range sessions() {
			check(name, call, func() api.Sess { return roomy(s) })
			check(name, call, func() api.Sess { return deepCopy(s) })
		}
	}
}

func TestCallsLeaveWhatIsHandedIn(t *testing.T) {
	allCalls(func(name string, call func(api.Sess) api.Sess, given func() api.Sess) {
		s := given()
		want := wholeText(s)
		got := call(s)
		if now := wholeText(s); now != want {
			t.Fatalf("by %s what was handed in became\n%s, and was\n%s", name, now, want)
		}
		spoil(got)
		if now := wholeText(s); now != want {
			t.Fatalf("by writing into what %s answered what was handed in became\n%s, and was\n%s", name, now, want)
		}
	})
}

func TestWhatCallsAnswerStays(t *testing.T) {
	allCalls(func(name string, call func(api.Sess) api.Sess, given func() api.Sess) {
		s := given()
		first := call(s)
		want := wholeText(first)
		spoil(call(s))
		if now := wholeText(first); now != want {
			t.Errorf("by writing into another answer of %s an answer became\n%s, and was\n%s", name, now, want)
		}
		spoil(s)
		if now := wholeText(first); now != want {
			t.Errorf("by writing into what was handed to %s its answer became\n%s, and was\n%s", name, now, want)
		}
	})
}

// TestTheListsOfOneAnswerShareNothing hands in sessions whose lists do, and writes into the lists of the answer one by one.
func TestTheListsOfOneAnswerShareNothing(t *testing.T) {
	one := []int{5, 6, 7, 8}
	for name, call := range calls {
		for _, next := range []int{0, 1, 2, 3, 9} {
			s := full()
			s.Lines, s.Next = []string{"trade 1 give 2 3 coins 4 for 5 6 coins 7", "look", "x", "get 1"}, next
			s.Cmd.Gives, s.Cmd.Wants, s.Reply.Players, s.Heads = one[:2], one[1:3], one[:3], one[:4]
			for n := range spoilers(s) {
				got := call(s)
				want := listTexts(got)
				spoilers(got)[n]()
				for i, now := range listTexts(got) {
					if i != n && now != want[i] {
						t.Errorf("by writing into the list %d of what %s answered its list %d became %s, and was %s", n, name, i, now, want[i])
					}
				}
			}
		}
	}
	if fmt.Sprint(one) != "[5 6 7 8]" {
		t.Errorf("what was handed in became %v", one)
	}
}

// listTexts are the texts of lists, in the order of spoilers.
func listTexts(s api.Sess) []string {
	return []string{
		fmt.Sprint(whole(s.Foot)), fmt.Sprint(whole(s.Plan)), fmt.Sprint(whole(s.Copies)), fmt.Sprint(whole(s.Heads)), fmt.Sprint(whole(s.Cmd.Gives)),
		fmt.Sprint(whole(s.Cmd.Wants)), fmt.Sprint(whole(s.Reply.Players)), fmt.Sprint(whole(s.Reply.Items)),
	}
}

func TestNewLeavesWhatIsHandedIn(t *testing.T) {
	for _, lines := range [][]string{nil, {}, {"look"}, {"", "x", "get 1"}} {
		x := api.Script{Player: 2, Lines: withRoom(lines, "own")}
		want := fmt.Sprintf("%d %q %q", x.Player, x.Lines, whole(x.Lines))
		s := New(x)
		answer := text(s)
		spoil(s)
		spoil(New(x))
		spoil(Open(s))
		spoil(Close(Open(s)))
		if now := fmt.Sprintf("%d %q %q", x.Player, x.Lines, whole(x.Lines)); now != want {
			t.Errorf("by New the script became %s, and was %s", now, want)
		}
		if text(s) != answer {
			t.Errorf("an answer became %s, and was %s", text(s), answer)
		}
	}
}

func TestSameLeavesWhatIsHandedIn(t *testing.T) {
	for _, x := range others(full()) {
		a, b := roomy(full()), roomy(x.s)
		want := wholeText(a) + wholeText(b)
		Same(a, b)
		Same(b, a)
		Same(b, b)
		if now := wholeText(a) + wholeText(b); now != want {
			t.Fatalf("%s: by Same what was handed in became\n%s, and was\n%s", x.path, now, want)
		}
	}
}

func TestCallsHangOnTheirArgumentsAlone(t *testing.T) {
	allCalls(func(name string, call func(api.Sess) api.Sess, given func() api.Sess) {
		want := text(call(given()))
		for other, otherCall := range calls {
			otherCall(full())
			spoil(otherCall(idle()))
			if got := text(call(given())); got != want {
				t.Errorf("behind %s the answer of %s became\n%s, and was\n%s", other, name, got, want)
			}
		}
	})
}

// Whatever is handed in, calls end, and none panics.

func TestWhateverIsHandedInNothingPanics(t *testing.T) {
	for _, n := range []int{math.MinInt, math.MinInt + 1, -1 << 32, -2, -1, 0, 1, 2, 3, 4, 12, 13, 1 << 32, math.MaxInt - 1, math.MaxInt} {
		New(api.Script{Player: n, Lines: []string{"look"}})
		for phase := -1; phase <= 13; phase++ {
			for _, s := range []api.Sess{{}, empty(full()), full()} {
				s.Next, s.Phase = n, phase
				s.Player, s.Step, s.Has, s.Tries, s.Ver = n, n, n, n, n
				for _, call := range calls {
					Same(s, call(s))
					call(call(s))
				}
			}
		}
	}
}

func TestOpenOfNoLineLeavesTheSession(t *testing.T) {
	for _, next := range []int{math.MinInt, -1, 4, 5, math.MaxInt} {
		s := full()
		s.Next = next
		check(t, fmt.Sprintf("the line %d", next), Open(s), s)
	}
	check(t, "no lines", Open(api.Sess{Player: 1, Phase: 12}), api.Sess{Player: 1, Phase: 12})
	lines := []string{"look", "own"}
	check(t, "a line behind the list", Open(api.Sess{Lines: lines[:1], Next: 1}), api.Sess{Lines: lines[:1], Next: 1})
}
