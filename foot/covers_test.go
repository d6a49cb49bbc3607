package foot

import (
	"slices"
	"testing"

	"innkeep/api"
	"innkeep/desc"
)

// P16.1, Covers

// change is what is another one in a world.
type change func(w *api.World)

func goes(p, to int) change {
	return func(w *api.World) { w.At[p] = to }
}

func pays(p, coins int) change {
	return func(w *api.World) { w.Coins[p] -= coins }
}

func brings(item int, at api.Place) change {
	return func(w *api.World) { w.Where[item] = at }
}

// changed is a world like w with these changes.
func changed(t *testing.T, w api.World, all ...change) api.World {
	t.Helper()
	next := desc.Copy(w)
	for _, change := range all {
		change(&next)
	}
	checkRight(t, w)
	checkRight(t, next)
	return next
}

func checkOneCovers(t *testing.T, why string, l []api.Key, w, next api.World, want bool) {
	t.Helper()
	if got := Covers(l, w, next); got != want {
		t.Errorf("%s: Covers of %v is %v, of %v, %v, %v and %v, %v, %v", why, l, got, w.At, w.Coins, w.Where, next.At, next.Coins, next.Where)
	}
}

// without are the keys of a list but for this one.
func without(l []api.Key, k api.Key) []api.Key {
	return slices.DeleteFunc(slices.Clone(l), func(other api.Key) bool { return other == k })
}

// checkCovers sees to it that just these keys are needed: they are enough, in whatever order, and with whatever others; without any one of them even all others that there are aren't.
func checkCovers(t *testing.T, why string, w, next api.World, need ...api.Key) {
	t.Helper()
	all := keysOf(w)
	for _, both := range [][2]api.World{{w, next}, {next, w}} { // the way back needs the same keys
		one, other := both[0], both[1]
		checkOneCovers(t, why, need, one, other, true)
		checkOneCovers(t, why, all, one, other, true)
		checkOneCovers(t, why, nil, one, other, len(need) == 0)
		falling := slices.Clone(need)
		slices.Reverse(falling)
		checkOneCovers(t, why, slices.Concat(falling, need), one, other, true)
		for _, k := range need {
			checkOneCovers(t, why, without(need, k), one, other, false)
			checkOneCovers(t, why, without(all, k), one, other, false)
		}
	}
}

func TestTwoWorldsThatAreTheSame(t *testing.T) {
	w := house()
	checkCovers(t, "one world", w, w)
	checkCovers(t, "one world, in new memory", w, changed(t, w))
	checkCovers(t, "a player who goes where one is", w, changed(t, w, goes(3, 7)))
	checkCovers(t, "a world without items", sized(2, 1, 0), sized(2, 1, 0))
}

func TestCoversPlayers(t *testing.T) {
	w := house()
	for p := range w.At {
		checkCovers(t, "elsewhere", w, changed(t, w, goes(p, 5)), player(p))
		checkCovers(t, "one coin less", w, changed(t, w, pays(p, 1)), player(p))
		checkCovers(t, "one coin more", w, changed(t, w, pays(p, -1)), player(p))
		checkCovers(t, "as many coins as may be", w, changed(t, w, pays(p, w.Coins[p]-maxCoins)), player(p))
		checkCovers(t, "elsewhere, and no coins", w, changed(t, w, goes(p, 6), pays(p, w.Coins[p])), player(p))
	}
	checkCovers(t, "two elsewhere", w, changed(t, w, goes(1, 7), goes(4, 0)), player(1), player(4))
	checkCovers(t, "one elsewhere, one poorer", w, changed(t, w, goes(5, 1), pays(0, 2)), player(0), player(5))
	checkCovers(t, "coins that go from one to another", w, changed(t, w, pays(1, 5), pays(2, -5)), player(1), player(2))
	checkCovers(t, "all of them", w, changed(t, w, goes(0, 2), goes(1, 2), goes(2, 2), pays(3, 1), pays(4, 1), pays(5, 1)),
		player(0), player(1), player(2), player(3), player(4), player(5))
}

func TestAPlayersRoomsDoNotCoverThePlayer(t *testing.T) {
	w := house()
	next := changed(t, w, goes(1, 5))
	checkOneCovers(t, "the rooms", list(room(0), room(5)), w, next, false)
	checkOneCovers(t, "a room of the player's number", list(room(1)), w, next, false)
	checkOneCovers(t, "the player", list(player(1)), w, next, true)
	next = changed(t, w, goes(1, 5), goes(2, 5))
	checkOneCovers(t, "one of two", list(player(1)), w, next, false)
	checkOneCovers(t, "the other one of two", list(player(2)), w, next, false)
	checkOneCovers(t, "both", list(player(2), player(1)), w, next, true)
}

func TestCoversItems(t *testing.T) {
	w := house()
	for _, x := range []struct {
		why  string
		item int
		at   api.Place
		need []api.Key
	}{
		{"got", 9, inPlayer(3), list(room(7), player(3))},
		{"got, with others in it", 6, inPlayer(1), list(room(0), player(1))},
		{"got by one elsewhere", 9, inPlayer(5), list(room(7), player(5))},
		{"dropped", 11, inRoom(0), list(room(0), player(1))},
		{"dropped, with others in it", 2, inRoom(0), list(room(0), player(1))},
		{"dropped elsewhere", 10, inRoom(6), list(room(6), player(0))},
		{"put in a box on the floor", 11, inBox(6), list(room(0), player(1))},
		{"put in a box in a box on the floor", 5, inBox(7), list(room(0), player(2))},
		{"put in a box of one's own", 11, inBox(2), list(player(1))},
		{"put deep in a box of one's own", 11, inBox(4), list(player(1))},
		{"put in a box of another one", 5, inBox(3), list(player(1), player(2))},
		{"put in a box of the same floor", 9, inBox(6), list(room(0), room(7))},
		{"taken out of a box on the floor", 7, inPlayer(2), list(room(0), player(2))},
		{"taken out of a box of one's own", 3, inPlayer(1), list(player(1))},
		{"taken out of a box in a box of one's own", 4, inPlayer(1), list(player(1))},
		{"taken out of a box in a box, and dropped", 4, inRoom(7), list(room(7), player(1))},
		{"given", 2, inPlayer(2), list(player(1), player(2))},
		{"given to one elsewhere", 8, inPlayer(0), list(player(0), player(4))},
		{"from floor to floor", 9, inRoom(0), list(room(0), room(7))},
		{"from a room to the player of its number", 0, inPlayer(3), list(room(3), player(3))},
		{"from a player to the room of that number", 11, inRoom(1), list(room(1), player(1))},
		{"from a room to a box of its number", 0, inBox(3), list(room(3), player(1))},
		{"from a box to the room of its number", 7, inRoom(6), list(room(0), room(6))},
		{"from a box to the player of its number", 3, inPlayer(2), list(player(1), player(2))},
		{"from a box to another one of the same player", 4, inBox(11), list(player(1))},
		{"from a box to another one of another floor", 1, inBox(7), list(room(0), room(3))},
	} {
		checkCovers(t, x.why, w, changed(t, w, brings(x.item, x.at)), x.need...)
	}
}

// TestKeysOfBothAreNeeded spells out what the lists above have checked with other keys beside.
func TestKeysOfBothAreNeeded(t *testing.T) {
	w := house()
	for _, item := range []int{9, 2, 7} {
		at, from := inPlayer(3), list(room(7))
		switch item {
		case 2:
			at, from = inRoom(7), list(player(1))
		case 7:
			from = list(room(0))
		}
		next, to := changed(t, w, brings(item, at)), list(api.Key(at))
		checkOneCovers(t, "the one's alone", from, w, next, false)
		checkOneCovers(t, "the other's alone", to, w, next, false)
		checkOneCovers(t, "both", slices.Concat(to, from), w, next, true)
		checkOneCovers(t, "neither", list(room(5), player(5)), w, next, false)
		checkOneCovers(t, "none", nil, w, next, false)
		checkOneCovers(t, "empty", []api.Key{}, w, next, false)
	}
}

func TestCoversWhatIsInBoxesThatWentElsewhere(t *testing.T) {
	w := house()
	got := changed(t, w, brings(6, inPlayer(2)))
	checkCovers(t, "the box alone, and what is in it as it was", w, got, room(0), player(2))
	checkCovers(t, "taken out, and then the box got", w, changed(t, got, brings(7, inRoom(5))), room(0), room(5), player(2))
	checkCovers(t, "put in another box, and the box got", w, changed(t, got, brings(7, inBox(4))), room(0), player(1), player(2))
	checkCovers(t, "taken out of the box that was got before", got, changed(t, got, brings(7, inRoom(5))), room(5), player(2))
	checkCovers(t, "two boxes that went elsewhere", w, changed(t, got, brings(0, inPlayer(5))), room(0), room(3), player(2), player(5))
	checkCovers(t, "a box that went into another one, which went elsewhere", w, changed(t, w, brings(6, inBox(2)), brings(2, inRoom(4))), room(0), room(4), player(1))
	checkCovers(t, "a box into what was in it", w, changed(t, w, brings(7, inRoom(0)), brings(6, inBox(7))), room(0))
	checkCovers(t, "a box in one that was got, that stays in it", w, changed(t, w, brings(2, inPlayer(2)), brings(4, inBox(2))), player(1), player(2))
}

func TestWhatIsCarriedIsUnderTheOneWhoCarries(t *testing.T) {
	w := house()
	checkCovers(t, "one who has items, elsewhere", w, changed(t, w, goes(1, 7)), player(1))
	checkCovers(t, "one who has items, elsewhere, and one of them on that floor", w, changed(t, w, goes(1, 7), brings(11, inRoom(7))), room(7), player(1))
}

func TestCoversMoreThanOneChange(t *testing.T) {
	w := house()
	checkCovers(t, "two items that change places", w, changed(t, w, brings(2, inPlayer(2)), brings(5, inPlayer(1))), player(1), player(2))
	checkCovers(t, "a trade", w, changed(t, w, brings(11, inPlayer(2)), pays(1, -3), pays(2, 3)), player(1), player(2))
	checkCovers(t, "the first and the last item", w, changed(t, w, brings(0, inRoom(2)), brings(11, inPlayer(4))), room(2), room(3), player(1), player(4))
	checkCovers(t, "a player, a purse and an item", w, changed(t, w, goes(0, 6), pays(4, 1), brings(9, inRoom(5))), room(5), room(7), player(0), player(4))
}

func TestKeysThatThereAreNotCoverNothing(t *testing.T) {
	w := house()
	next := changed(t, w, brings(7, inBox(2)))
	none := list(room(-1), room(8), player(-1), player(6), api.Key{Kind: 2, Id: 6}, api.Key{Kind: 2, Id: 2}, api.Key{Kind: -1}, api.Key{Kind: 3})
	checkOneCovers(t, "none that there is", none, w, next, false)
	checkOneCovers(t, "one that there is", append(none, room(0)), w, next, false)
	checkOneCovers(t, "both, among others", slices.Concat(list(player(1)), none, list(room(0))), w, next, true)
	checkOneCovers(t, "nothing changed", none, w, w, true)
	swapped := list(room(1), player(0))
	checkOneCovers(t, "the rooms' numbers as players', and the other way round", swapped, w, next, false)
}

// modelRoot is what an item hangs from.
func modelRoot(w api.World, item int) api.Key {
	at := w.Where[item]
	if at.Kind == 2 {
		return modelRoot(w, at.Id)
	}
	return api.Key(at)
}

// modelNeed are the keys that are needed, by the chapter's words.
func modelNeed(w, next api.World) map[api.Key]bool {
	need := map[api.Key]bool{}
	for p := range w.At {
		if w.At[p] != next.At[p] || w.Coins[p] != next.Coins[p] {
			need[player(p)] = true
		}
	}
	for item := range w.Where {
		if w.Where[item] != next.Where[item] {
			need[modelRoot(w, item)] = true
			need[modelRoot(next, item)] = true
		}
	}
	return need
}

func modelCovers(l []api.Key, need map[api.Key]bool) bool {
	for k := range need {
		if !slices.Contains(l, k) {
			return false
		}
	}
	return true
}

// TestCoversOfAllSmallWorlds goes through all pairs of small worlds of one description, with all lists of their keys, rising.
func TestCoversOfAllSmallWorlds(t *testing.T) {
	for _, size := range [][3]int{{1, 1, 0}, {2, 1, 2}, {1, 2, 2}, {2, 2, 1}, {1, 1, 3}} {
		worlds := smallWorlds(size[0], size[1], size[2])
		all := keysOf(worlds[0])
		var lists [][]api.Key
		for n := range power(2, len(all)) {
			var l []api.Key
			for i, k := range all {
				if n>>i&1 == 1 {
					l = append(l, k)
				}
			}
			lists = append(lists, l)
		}
		for _, w := range worlds {
			for _, next := range worlds {
				need := modelNeed(w, next)
				for _, l := range lists {
					checkOneCovers(t, "small", l, w, next, modelCovers(l, need))
				}
			}
		}
	}
}

func TestCoversOfManyWorlds(t *testing.T) {
	seed := uint32(7)
	for range 2000 {
		w := largeWorld(&seed)
		next := scattered(&seed, w, keysOf(w)[:pick(&seed, len(keysOf(w))+1)])
		var need []api.Key
		for _, k := range keysOf(w) {
			if modelNeed(w, next)[k] {
				need = append(need, k)
			}
		}
		checkCovers(t, "large", w, next, need...)
	}
}
