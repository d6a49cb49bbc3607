package plan

import (
	"cmp"
	"slices"
	"testing"

	"innkeep/api"
	"innkeep/atom"
	"innkeep/desc"
)

// P18.1, From

func TestFromAWorldToItself(t *testing.T) {
	checkRight(t, inn())
	checkFrom(t, "the same world", inn(), inn())
	w := inn()
	checkFrom(t, "itself", w, w)
	checkFrom(t, "the zero one", api.World{}, api.World{})
	checkFrom(t, "nil and empty lists", api.World{}, api.World{At: []int{}, Coins: []int{}, Where: []api.Place{}})
	seed := uint32(8)
	for range 200 {
		w := largeWorld(t, &seed)
		checkFrom(t, "a large one", w, desc.Copy(w))
	}
}

func TestFromByOnePlayersRoom(t *testing.T) {
	for p := range 4 {
		for _, room := range []int{0, 1, 2} {
			if w := inn(); w.At[p] != room {
				checkFrom(t, "there", w, at(w, p, room), goes(p, room))
				checkFrom(t, "back", at(w, p, room), w, goes(p, w.At[p]))
			}
		}
	}
}

func TestFromByOnePlayersCoins(t *testing.T) {
	for p := range 4 {
		for _, coins := range []int{0, 1, 4, 5, 6, 7, 8, maxCoins - 1, maxCoins} {
			if w := inn(); w.Coins[p] != coins {
				checkFrom(t, "there", w, has(w, p, coins), pays(p, coins))
				checkFrom(t, "back", has(w, p, coins), w, pays(p, w.Coins[p]))
			}
		}
	}
}

func TestFromByOneItemsPlace(t *testing.T) {
	for item := range 5 {
		for _, place := range []api.Place{inRoom(0), inRoom(1), inRoom(2), inPlayer(0), inPlayer(3), inBox(0), inBox(2), inBox(4)} {
			if w := inn(); w.Where[item] != place {
				checkFrom(t, "there", w, where(w, item, place), lies(item, place))
				checkFrom(t, "back", where(w, item, place), w, lies(item, w.Where[item]))
			}
		}
	}
}

func TestFromByAPlacesKindOrIdAlone(t *testing.T) {
	for item := range 5 {
		for id := range 3 {
			for kind := range 3 {
				w := where(inn(), item, api.Place{Kind: kind, Id: id})
				for n := range 3 {
					if n != kind {
						to := api.Place{Kind: n, Id: id}
						checkFrom(t, "by its Kind alone", w, where(w, item, to), lies(item, to))
					}
					if n != id {
						to := api.Place{Kind: kind, Id: n}
						checkFrom(t, "by its Id alone", w, where(w, item, to), lies(item, to))
					}
				}
			}
		}
	}
}

func TestFromByMany(t *testing.T) {
	w := inn()
	checkFrom(t, "a player's room, and his coins", w, has(at(w, 1, 0), 1, 9), goes(1, 0), pays(1, 9))
	checkFrom(t, "a player's room, and one's coins ahead of him", w, has(at(w, 3, 2), 0, 9), goes(3, 2), pays(0, 9))
	checkFrom(t, "a player's coins, and an item's place ahead of him", w, where(has(w, 3, 9), 0, inRoom(0)), pays(3, 9), lies(0, inRoom(0)))
	checkFrom(t, "a player's room, and an item's place ahead of him", w, where(at(w, 3, 2), 0, inRoom(0)), goes(3, 2), lies(0, inRoom(0)))
	next := inn()
	next.At = []int{0, 0, 0, 1}
	checkFrom(t, "all rooms", w, next, goes(0, 0), goes(1, 0), goes(2, 0), goes(3, 1))
	next.At, next.Coins = w.At, []int{6, 1, maxCoins - 1, 8}
	checkFrom(t, "all coins", w, next, pays(0, 6), pays(1, 1), pays(2, maxCoins-1), pays(3, 8))
	next.Coins, next.Where = w.Coins, []api.Place{inRoom(2), inBox(4), inPlayer(2), inRoom(0), inRoom(2)}
	checkFrom(t, "all places", w, next, lies(0, inRoom(2)), lies(1, inBox(4)), lies(2, inPlayer(2)), lies(3, inRoom(0)), lies(4, inRoom(2)))
	next.At, next.Coins = []int{1, 0, 0, 0}, []int{0, 5, maxCoins, 0}
	next.Where = []api.Place{inRoom(1), inBox(2), inPlayer(1), inPlayer(0), inBox(0)}
	checkRight(t, next)
	checkFrom(t, "some of each", w, next, goes(1, 0), goes(2, 0), pays(0, 0), pays(1, 5), pays(3, 0), lies(1, inBox(2)), lies(3, inPlayer(0)), lies(4, inBox(0)))
}

func TestFromTellsOfNoDescription(t *testing.T) {
	w, next := inn(), inn()
	next.Desc = api.Desc{}
	checkFrom(t, "no description", w, next)
	checkFrom(t, "no description", next, w)
}

// comparedChanges has those of players' rooms first, then those of coins, then those of places; of each the lesser number first.
func comparedChanges(a, b api.Write) int {
	return cmp.Or(cmp.Compare(a.Kind, b.Kind), cmp.Compare(a.Id, b.Id))
}

// checkChanges tells what changes have to be without going the way of From: they rise, have no field beside their kinds', make the one world of the other one, and lacking any one they don't.
func checkChanges(t *testing.T, w, next api.World) []api.Write {
	t.Helper()
	l := From(w, next)
	for i, x := range l {
		if i > 0 && comparedChanges(l[i-1], x) >= 0 {
			t.Errorf("From is %+v: the change %d doesn't rise", l, i)
		}
		if x.Kind < 0 || x.Kind > 2 || x.Kind == 2 && x.Num != 0 || x.Kind != 2 && x.Place != (api.Place{}) {
			t.Errorf("From is %+v: the change %d has what its kind hasn't", l, i)
		}
		if desc.Same(written(w, slices.Delete(slices.Clone(l), i, i+1)...), next) {
			t.Errorf("From is %+v: the change %d isn't needed", l, i)
		}
	}
	if got := written(w, l...); !desc.Same(got, next) {
		t.Errorf("From of %+v and %+v is %+v, which makes %+v", w, next, l, got)
	}
	return l
}

func TestFromInAllSmallWorlds(t *testing.T) {
	allPairs(func(w, next api.World) { checkChanges(t, w, next) })
}

func TestFromInManyWorlds(t *testing.T) {
	seed, most := uint32(2), 0
	for range 3000 {
		w := changed(&seed, largeWorld(t, &seed))
		most = max(most, len(checkChanges(t, w, changed(&seed, w))))
	}
	if most < 20 {
		t.Errorf("there were at most %d changes", most)
	}
}

// What commands make: the chapter's example, and its like.
func TestFromWhatACommandMakes(t *testing.T) {
	w := inn()
	for _, x := range []struct {
		why  string
		p    int
		c    api.Cmd
		want []api.Write
	}{
		{"get", 0, api.Cmd{Kind: 3, Item: 0}, list(lies(0, inPlayer(0)))},
		{"get of an item that isn't here", 0, api.Cmd{Kind: 3, Item: 2}, nil},
		{"drop", 1, api.Cmd{Kind: 4, Item: 2}, list(lies(2, inRoom(2)))},
		{"put of a box into what is in it", 1, api.Cmd{Kind: 5, Item: 2, Box: 4}, nil},
		{"take", 2, api.Cmd{Kind: 6, Item: 1, Box: 0}, list(lies(1, inPlayer(2)))},
		{"take of a box", 1, api.Cmd{Kind: 6, Item: 4, Box: 2}, list(lies(4, inPlayer(1)))},
		{"move", 3, api.Cmd{Kind: 1, Dir: 0}, list(goes(3, 1))},
		{"push", 0, api.Cmd{Kind: 2, Who: 2, Dir: 1}, list(goes(2, 2))},
		{"trade", 0, swap(2, 5, 7), list(pays(0, 7), pays(2, maxCoins-2))},
		{"trade by which one would have too many coins", 2, swap(0, 3, 5), nil},
		{"trade of as many coins", 0, swap(2, 5, 5), nil},
		{"look", 0, api.Cmd{Kind: 9}, nil},
		{"own", 0, api.Cmd{Kind: 10}, nil},
	} {
		next, _ := atom.Do(w, x.p, x.c)
		checkFrom(t, x.why, w, next, x.want...)
	}
}

// swap is a trade of coins with this player.
func swap(who, pay, fee int) api.Cmd {
	return api.Cmd{Kind: 8, Who: who, Pay: pay, Fee: fee}
}

// P18.1, Do

// written is what becomes of a world by these changes, one by one, by a plain account of them.
func written(w api.World, l ...api.Write) api.World {
	for _, x := range l {
		switch x.Kind {
		case 0:
			w = at(w, x.Id, x.Num)
		case 1:
			w = has(w, x.Id, x.Num)
		case 2:
			w = where(w, x.Id, x.Place)
		}
	}
	return w
}

func TestDo(t *testing.T) {
	w := inn()
	for _, x := range []struct {
		why  string
		x    api.Write
		want api.World
	}{
		{"the first player's room", goes(0, 2), at(w, 0, 2)},
		{"the last player's room", goes(3, 2), at(w, 3, 2)},
		{"the room 0", goes(1, 0), at(w, 1, 0)},
		{"the room where one is", goes(1, 2), w},
		{"the first player's coins", pays(0, 9), has(w, 0, 9)},
		{"the last player's coins", pays(3, 9), has(w, 3, 9)},
		{"no coins", pays(2, 0), has(w, 2, 0)},
		{"all coins", pays(1, maxCoins), has(w, 1, maxCoins)},
		{"as many coins as one has", pays(0, 5), w},
		{"the first item to a room", lies(0, inRoom(2)), where(w, 0, inRoom(2))},
		{"the first item to a player", lies(0, inPlayer(3)), where(w, 0, inPlayer(3))},
		{"the last item into a box", lies(4, inBox(0)), where(w, 4, inBox(0))},
		{"the last item to the room 0", lies(4, inRoom(0)), where(w, 4, inRoom(0))},
		{"an item where it is", lies(2, inPlayer(1)), w},
		{"a player with an item's number", goes(2, 0), at(w, 2, 0)},
		{"a room that there isn't", goes(2, -7), at(w, 2, -7)},
		{"a purse that there isn't", pays(2, -7), has(w, 2, -7)},
		{"a place that there isn't", lies(2, api.Place{Kind: 7, Id: -7}), where(w, 2, api.Place{Kind: 7, Id: -7})},
	} {
		checkWorld(t, x.why, Do(w, x.x), x.want)
		if again := Do(Do(w, x.x), x.x); !desc.Same(again, x.want) {
			t.Errorf("%s: done again, it is %+v, not %+v", x.why, again, x.want)
		}
	}
}

func TestDoOfEachKindAndNumber(t *testing.T) {
	w := inn()
	for n := range 5 {
		for num := range 3 {
			if n < 4 {
				checkWorld(t, "a room", Do(w, goes(n, num)), at(w, n, num))
				checkWorld(t, "coins", Do(w, pays(n, num)), has(w, n, num))
			}
			for kind := range 3 {
				place := api.Place{Kind: kind, Id: num}
				checkWorld(t, "a place", Do(w, lies(n, place)), where(w, n, place))
			}
		}
	}
}

func TestWhatAChangesKindHasNotTellsNothing(t *testing.T) {
	w := inn()
	checkWorld(t, "a room", Do(w, api.Write{Kind: 0, Id: 1, Num: 0, Place: inBox(4)}), at(w, 1, 0))
	checkWorld(t, "coins", Do(w, api.Write{Kind: 1, Id: 1, Num: 9, Place: inBox(4)}), has(w, 1, 9))
	checkWorld(t, "a place", Do(w, api.Write{Kind: 2, Id: 1, Num: 9, Place: inBox(4)}), where(w, 1, inBox(4)))
}

// P18.1, All

func TestAll(t *testing.T) {
	w := inn()
	for _, x := range []struct {
		why  string
		l    []api.Write
		want api.World
	}{
		{"no changes", nil, w},
		{"an empty list", list(), w},
		{"one", list(pays(3, 1)), has(w, 3, 1)},
		{"two of unlike things", list(goes(3, 1), lies(3, inRoom(2))), where(at(w, 3, 1), 3, inRoom(2))},
		{"two of one number, of unlike kinds", list(pays(0, 1), goes(0, 0)), has(at(w, 0, 0), 0, 1)},
		{"two of one room", list(goes(1, 0), goes(1, 1)), at(w, 1, 1)},
		{"two of one room, the other way round", list(goes(1, 1), goes(1, 0)), at(w, 1, 0)},
		{"two of one player's coins", list(pays(1, 8), pays(1, 4)), has(w, 1, 4)},
		{"two of one item's place", list(lies(1, inRoom(0)), lies(1, inBox(4))), where(w, 1, inBox(4))},
		{"there and back", list(lies(1, inRoom(0)), lies(1, inBox(0))), w},
		{"back, and there once more", list(goes(0, 1), goes(0, 2), goes(0, 1), goes(0, 0)), at(w, 0, 0)},
		{"many, in no order", list(lies(4, inRoom(1)), pays(2, 0), goes(3, 2), lies(0, inPlayer(0)), pays(0, 1), goes(0, 0)),
			where(where(has(has(at(at(w, 3, 2), 0, 0), 2, 0), 0, 1), 4, inRoom(1)), 0, inPlayer(0))},
	} {
		checkWorld(t, x.why, All(w, x.l), x.want)
		checkWorld(t, x.why+", by Do", doneBySteps(w, x.l), x.want)
	}
}

// doneBySteps is Do, one by one.
func doneBySteps(w api.World, l []api.Write) api.World {
	for _, x := range l {
		w = Do(w, x)
	}
	return w
}

// likelyChanges are so many changes of a world's things, some of them of the same ones.
func likelyChanges(seed *uint32, w api.World, many int) []api.Write {
	var l []api.Write
	for range many {
		x := api.Write{Kind: pick(seed, 3), Num: pick(seed, 8), Place: api.Place{Kind: pick(seed, 3), Id: pick(seed, 6)}}
		if x.Kind == 2 && len(w.Where) == 0 {
			x.Kind = 1
		}
		if x.Kind == 2 {
			x.Id = pick(seed, len(w.Where))
		} else {
			x.Id = pick(seed, len(w.At))
		}
		l = append(l, x)
	}
	return l
}

func TestAllIsDoOneByOne(t *testing.T) {
	seed := uint32(18)
	for range 1000 {
		w := largeWorld(t, &seed)
		l := likelyChanges(&seed, w, pick(&seed, 60))
		want := written(w, l...)
		checkWorld(t, "All", All(w, l), want)
		checkWorld(t, "Do, one by one", doneBySteps(w, l), want)
		cut := pick(&seed, len(l)+1)
		checkWorld(t, "All, and All again", All(All(w, l[:cut]), l[cut:]), want)
	}
}

// P18.1, Settled

// midway is a session of the Phase Change.
func midway(step int, l ...api.Write) api.Sess {
	return api.Sess{Phase: 5, Step: step, Plan: l}
}

func TestSettledOfNoSessions(t *testing.T) {
	w := inn()
	checkWorld(t, "nil", Settled(w, nil), w)
	checkWorld(t, "an empty list", Settled(w, []api.Sess{}), w)
	checkWorld(t, "a zero session", Settled(w, []api.Sess{{}}), w)
	checkWorld(t, "an empty plan", Settled(w, []api.Sess{midway(0)}), w)
}

func TestSettledOfOneSession(t *testing.T) {
	w := inn()
	l := list(goes(2, 0), pays(0, 9), lies(1, inRoom(2)), lies(4, inPlayer(0)))
	all := []api.World{
		where(where(has(at(w, 2, 0), 0, 9), 1, inRoom(2)), 4, inPlayer(0)),
		where(where(has(w, 0, 9), 1, inRoom(2)), 4, inPlayer(0)),
		where(where(w, 1, inRoom(2)), 4, inPlayer(0)),
		where(w, 4, inPlayer(0)),
		w,
	}
	for step, want := range all {
		checkWorld(t, "a step", Settled(w, []api.Sess{midway(step, l...)}), want)
		checkWorld(t, "what is done by then", Settled(All(w, l[:step]), []api.Sess{midway(step, l...)}), all[0])
	}
}

func TestSettledAsksForThePhaseAlone(t *testing.T) {
	w := inn()
	l := list(goes(2, 0), pays(0, 9), lies(1, inRoom(2)))
	for phase := -1; phase <= 13; phase++ {
		want := w
		if phase == 5 {
			want = written(w, l...)
		}
		checkWorld(t, "a plan", Settled(w, []api.Sess{{Phase: phase, Plan: l}}), want)
		full := api.Sess{
			Player: 3, Lines: []string{"get 0", "look"}, Next: 1, Phase: phase, Cmd: api.Cmd{Kind: 8, Who: 1, Gives: []int{2}, Pay: 1}, Foot: []api.Key{{Kind: 0, Id: 1}, {Kind: 1, Id: 2}},
			Has: 2, Plan: l, Reply: api.Reply{Err: 5, Kind: 3}, Stale: true, Tries: 2, Ver: 6, Room: 2, Copies: []api.Place{inRoom(2)}, Heads: []int{2}, Purse: 4,
		}
		checkWorld(t, "a session that has all", Settled(w, []api.Sess{full}), want)
		if phase != 5 {
			for _, step := range []int{-3, 1, 2, 3, 4, 99} {
				full.Step = step
				checkWorld(t, "a step of another phase", Settled(w, []api.Sess{full}), w)
			}
		}
	}
}

func TestSettledOfManySessions(t *testing.T) {
	w := inn()
	wait := func(phase int) api.Sess {
		return api.Sess{Phase: phase, Plan: list(goes(0, 2), pays(1, 88), lies(0, inPlayer(2)))}
	}
	for _, x := range []struct {
		why  string
		l    []api.Sess
		want api.World
	}{
		{"two of unlike things", []api.Sess{midway(0, goes(0, 0)), midway(1, goes(3, 1), pays(3, 1))}, has(at(w, 0, 0), 3, 1)},
		{"one behind others that have no effect yet", []api.Sess{wait(2), wait(3), wait(4), midway(0, goes(3, 1))}, at(w, 3, 1)},
		{"one ahead of others that are done with their changes", []api.Sess{midway(0, goes(3, 1)), wait(6), wait(7), wait(8)}, at(w, 3, 1)},
		{"the first and the last of four", []api.Sess{midway(1, goes(3, 1), goes(1, 0)), wait(4), wait(6), midway(0, lies(4, inBox(0)), lies(3, inRoom(2)))}, where(where(at(w, 1, 0), 4, inBox(0)), 3, inRoom(2))},
		{"none of four", []api.Sess{wait(0), wait(4), wait(6), wait(12)}, w},
		{"the last of one thing holds", []api.Sess{midway(0, pays(0, 1)), midway(0, pays(0, 2)), midway(0, pays(0, 3))}, has(w, 0, 3)},
		{"the other way round", []api.Sess{midway(0, pays(0, 3)), midway(0, pays(0, 2)), midway(0, pays(0, 1))}, has(w, 0, 1)},
		{"at their ends", []api.Sess{midway(1, pays(0, 3)), midway(2, pays(0, 2), goes(0, 0)), midway(0)}, w},
		{"one at its end between others", []api.Sess{midway(0, pays(0, 3)), midway(1, pays(0, 2)), midway(0, pays(1, 1))}, has(has(w, 0, 3), 1, 1)},
	} {
		checkWorld(t, x.why, Settled(w, x.l), x.want)
	}
}

func TestSettledIsWhatIsLeftSessionBySession(t *testing.T) {
	seed, met := uint32(77), 0
	for range 2000 {
		w := largeWorld(t, &seed)
		var l []api.Sess
		want := w
		for range pick(&seed, 9) {
			s := api.Sess{Phase: one(&seed, 5, 5, pick(&seed, 13)), Plan: likelyChanges(&seed, w, pick(&seed, 8))}
			s.Step = pick(&seed, len(s.Plan)+1)
			l = append(l, s)
			if s.Phase == 5 {
				want = written(want, s.Plan[s.Step:]...)
				met++
			}
		}
		checkWorld(t, "many", Settled(w, l), want)
	}
	if met < 2000 {
		t.Errorf("%d sessions were in the midst of changes", met)
	}
}
