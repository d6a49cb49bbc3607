package plan

import (
	"math"
	"slices"
	"testing"

	"innkeep/api"
	"innkeep/desc"
)

// P18.3: what is handed in stays, and what is answered is new memory.

// roomy is a list like this one, with room behind its length in which something stands.
func roomy[T any](list []T, behind T) []T {
	return append(slices.Clone(list), behind, behind, behind)[:len(list)]
}

// whole is a list with the room behind its length.
func whole[T any](list []T) []T {
	return list[:cap(list)]
}

// fill writes all over a list, the room behind its length included.
func fill[T any](list []T, with T) {
	for i := range whole(list) {
		whole(list)[i] = with
	}
}

// roomyWorld is a world with such room behind all its lists; what stands there would tell, if it were looked at.
func roomyWorld(w api.World) api.World {
	d := &w.Desc
	d.Exits = roomy(d.Exits, [4]int{1, 1, 1, 1})
	d.Players, d.Coins, d.Items, d.Boxes = roomy(d.Players, 0), roomy(d.Coins, 7), roomy(d.Items, 0), roomy(d.Boxes, true)
	w.At, w.Coins, w.Where = roomy(w.At, 0), roomy(w.Coins, 7), roomy(w.Where, inPlayer(1))
	return w
}

// roomySess is a session whose lists have such room; what stands behind its Plan are changes.
func roomySess(phase, step int, l ...api.Write) api.Sess {
	return api.Sess{
		Lines: roomy([]string{"get 0"}, "look"), Phase: phase, Step: step, Plan: roomy(l, pays(0, 77)),
		Foot: roomy([]api.Key{{Kind: 1, Id: 2}}, api.Key{Kind: 1, Id: 3}), Copies: roomy([]api.Place{inRoom(0)}, inRoom(2)), Heads: roomy([]int{1}, 3),
		Cmd:   api.Cmd{Kind: 8, Gives: roomy([]int{1}, 2), Wants: roomy([]int{3}, 4)},
		Reply: api.Reply{Kind: 9, Players: roomy([]int{0}, 2), Items: roomy([]api.Seen{{Item: 1}}, api.Seen{Item: 4})},
	}
}

// worldText is all that a world has, the room behind its lists included.
func worldText(w api.World) string {
	d := w.Desc
	return text(w) + text(whole(d.Exits)) + text(whole(d.Players)) + text(whole(d.Coins)) + text(whole(d.Items)) + text(whole(d.Boxes)) +
		text(whole(w.At)) + text(whole(w.Coins)) + text(whole(w.Where))
}

// sessText is all that sessions have, the room behind all lists included.
func sessText(l []api.Sess) string {
	all := text(whole(l))
	for _, s := range whole(l) {
		all += text(whole(s.Lines)) + text(whole(s.Plan)) + text(whole(s.Foot)) + text(whole(s.Copies)) + text(whole(s.Heads)) +
			text(whole(s.Cmd.Gives)) + text(whole(s.Cmd.Wants)) + text(whole(s.Reply.Players)) + text(whole(s.Reply.Items))
	}
	return all
}

// spoil writes all over a world's rooms, coins and places; its description may be shared.
func spoil(w api.World) {
	fill(w.At, -9)
	fill(w.Coins, -9)
	fill(w.Where, api.Place{Kind: -9, Id: -9})
	_, _, _ = append(w.At, -8), append(w.Coins, -8), append(w.Where, api.Place{Kind: -8})
}

func spoilChanges(l []api.Write) {
	fill(l, api.Write{Kind: -9, Id: -9, Num: -9, Place: api.Place{Kind: -9, Id: -9}})
	_ = append(l, goes(0, -8))
}

func spoilSessions(l []api.Sess) {
	for _, s := range whole(l) {
		spoilChanges(s.Plan)
	}
	fill(l, api.Sess{Phase: 5, Plan: list(goes(0, -8))})
}

// otherInn is the inn with some of each kind changed.
func otherInn() api.World {
	return where(where(has(has(at(at(inn(), 0, 0), 3, 1), 1, 3), 2, 0), 0, inPlayer(2)), 4, inBox(0))
}

// plans are changes of the inn: none, such as change nothing, one of each kind, and many.
func plans() [][]api.Write {
	return [][]api.Write{
		nil, {}, {goes(0, 1)}, {pays(0, 5)}, {lies(0, inRoom(1))}, {goes(0, 2)}, {pays(3, 9)}, {lies(4, inRoom(2))},
		From(inn(), otherInn()), {pays(0, 1), pays(0, 2), pays(0, 5)},
	}
}

func TestFromLeavesWhatIsHandedIn(t *testing.T) {
	for _, other := range []api.World{inn(), otherInn(), at(inn(), 0, 2)} {
		w, next := roomyWorld(inn()), roomyWorld(other)
		want := worldText(w) + worldText(next)
		l := From(w, next)
		first := slices.Clone(l)
		if got := worldText(w) + worldText(next); got != want {
			t.Fatalf("what was handed in became %s, and was %s", got, want)
		}
		spoilChanges(From(w, next))
		if got := worldText(w) + worldText(next); got != want {
			t.Fatalf("by writing into what is answered what was handed in became %s, and was %s", got, want)
		}
		if !slices.Equal(l, first) || !slices.Equal(From(w, next), first) {
			t.Errorf("by writing into another answer an answer became %+v, and was %+v", l, first)
		}
		spoil(w)
		spoil(next)
		From(inn(), has(inn(), 2, 4))
		if !slices.Equal(l, first) {
			t.Errorf("by writing into what was handed in an answer became %+v, and was %+v", l, first)
		}
	}
}

// checkStays sees to it that a call leaves what is handed in, whose text and whose spoiling are handed in, and answers new memory.
func checkStays(t *testing.T, why string, call func() api.World, given func() string, spoilGiven func()) {
	t.Helper()
	want := given()
	first := call()
	answer := desc.Copy(first)
	if got := given(); got != want {
		t.Fatalf("%s: what was handed in became %s, and was %s", why, got, want)
	}
	spoil(call())
	if got := given(); got != want {
		t.Fatalf("%s: by writing into what is answered what was handed in became %s, and was %s", why, got, want)
	}
	if !desc.Same(first, answer) || !desc.Same(call(), answer) {
		t.Errorf("%s: by writing into another answer an answer became %+v, and was %+v", why, first, answer)
	}
	spoilGiven()
	if !desc.Same(first, answer) {
		t.Errorf("%s: by writing into what was handed in an answer became %+v, and was %+v", why, first, answer)
	}
}

func TestDoLeavesWhatIsHandedIn(t *testing.T) {
	for _, l := range plans() {
		for _, x := range l {
			w := roomyWorld(inn())
			checkStays(t, text(x), func() api.World { return Do(w, x) }, func() string { return worldText(w) }, func() { spoil(w) })
		}
	}
}

func TestAllLeavesWhatIsHandedIn(t *testing.T) {
	for _, l := range plans() {
		w, l := roomyWorld(inn()), roomy(l, pays(0, 77))
		checkStays(t, text(l), func() api.World { return All(w, l) },
			func() string { return worldText(w) + text(whole(l)) }, func() { spoil(w); spoilChanges(l) })
	}
}

func TestSettledLeavesWhatIsHandedIn(t *testing.T) {
	lists := [][]api.Sess{nil, {}}
	for _, l := range plans() {
		for step := range len(l) + 1 {
			lists = append(lists, []api.Sess{roomySess(5, step, l...)})
		}
		lists = append(lists, []api.Sess{roomySess(4, 0, l...)}, []api.Sess{roomySess(6, 0, l...), roomySess(5, 0, l...), roomySess(5, 0, goes(2, 0))})
	}
	for _, sessions := range lists {
		w, l := roomyWorld(inn()), roomy(sessions, roomySess(5, 0, pays(0, 78)))
		checkStays(t, text(l), func() api.World { return Settled(w, l) },
			func() string { return worldText(w) + sessText(l) }, func() { spoil(w); spoilSessions(l) })
	}
}

func TestWhatStandsBehindListsIsNotLookedAt(t *testing.T) {
	w := roomyWorld(inn())
	next := roomyWorld(inn())
	next.At[:5][4], next.Coins[:5][4], next.Where[:6][5] = 2, 9, inBox(0)
	checkFrom(t, "other things behind", w, next)
	checkFrom(t, "one ahead of them", w, roomyWorld(has(next, 3, 1)), pays(3, 1))
	checkWorld(t, "changes behind", All(w, roomy(list(goes(0, 2)), pays(0, 77))), at(w, 0, 2))
	checkWorld(t, "changes behind none", All(w, roomy(list(), pays(0, 77))), w)
	checkWorld(t, "changes behind a plan", Settled(w, []api.Sess{roomySess(5, 1, goes(1, 0), goes(0, 2))}), at(w, 0, 2))
	checkWorld(t, "changes behind a plan's end", Settled(w, []api.Sess{roomySess(5, 2, goes(1, 0), goes(0, 2))}), w)
	checkWorld(t, "sessions behind", Settled(w, roomy([]api.Sess{}, roomySess(5, 0, goes(0, 2)))), w)
}

func TestCallsHangOnTheirArgumentsAlone(t *testing.T) {
	w, next := inn(), otherInn()
	l := From(w, next)
	for range 20 {
		From(next, at(next, 1, 0))
		Settled(next, []api.Sess{midway(0, goes(3, 0))})
		Do(All(next, l), pays(2, 4))
		checkFrom(t, "once more", w, next, l...)
		checkWorld(t, "once more", All(w, l), next)
		checkWorld(t, "once more", Do(w, goes(0, 2)), at(w, 0, 2))
		checkWorld(t, "once more", Settled(w, []api.Sess{midway(0, l...)}), next)
	}
}

// Whatever is handed in, calls end, and none panics.

// numbers are small ones, and such as are beyond all limits.
func numbers() []int {
	return []int{math.MinInt, -1 << 32, -2, -1, 0, 1, 3, 4, 5, 6, 16, 1 << 30, 1 << 32, math.MaxInt}
}

// wrongWorlds are worlds whose lists aren't as long as their descriptions tell, for the most part.
func wrongWorlds() []api.World {
	few, poor, bare, many := inn(), inn(), inn(), inn()
	few.At = few.At[:2]
	poor.Coins = poor.Coins[:1]
	bare.Where = nil
	many.At, many.Coins, many.Where = make([]int, 40), make([]int, 40), make([]api.Place, 40)
	return []api.World{{}, {At: []int{0, 0}}, {Coins: []int{5}}, {Where: []api.Place{{}, {Kind: 2}}}, {Desc: inn().Desc}, inn(), few, poor, bare, many}
}

func TestWrongArgumentsEndAndDoNotPanic(t *testing.T) {
	for _, w := range wrongWorlds() {
		want := text(w)
		for _, next := range wrongWorlds() {
			l := From(w, next)
			All(w, l)
			All(next, l)
		}
		for kind := -1; kind <= 4; kind++ {
			for _, n := range numbers() {
				x := api.Write{Kind: kind, Id: n, Num: n, Place: api.Place{Kind: n, Id: n}}
				Do(w, x)
				All(w, list(x, x))
				for _, step := range numbers() {
					Settled(w, []api.Sess{midway(step, x, x), midway(step)})
				}
			}
		}
		if got := text(w); got != want {
			t.Errorf("the world became %s, and was %s", got, want)
		}
	}
}

func TestWhatIsNoChangeChangesNothing(t *testing.T) {
	w := inn()
	for _, x := range []api.Write{
		{Kind: -1, Id: 0, Num: 9}, {Kind: 3, Id: 0, Num: 9}, {Kind: math.MaxInt, Id: 0, Num: 9},
		goes(-1, 9), goes(4, 9), goes(math.MaxInt, 9), pays(-1, 9), pays(4, 9), pays(math.MinInt, 9), lies(-1, inRoom(2)), lies(5, inRoom(2)),
	} {
		checkWorld(t, text(x), Do(w, x), w)
		checkWorld(t, text(x), All(w, list(x, goes(0, 2), x)), at(w, 0, 2))
	}
}
