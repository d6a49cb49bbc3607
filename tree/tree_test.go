package tree

import (
	"fmt"
	"math"
	"slices"
	"testing"

	"innkeep/api"
	"innkeep/desc"
)

func inRoom(id int) api.Place   { return api.Place{Kind: 0, Id: id} }
func inPlayer(id int) api.Place { return api.Place{Kind: 1, Id: id} }
func inBox(id int) api.Place    { return api.Place{Kind: 2, Id: id} }

// text is all that a value has; nil and empty lists are one in it.
func text(x any) string {
	return fmt.Sprintf("%+v", x)
}

// sized is a world of so many rooms and players, whose items have these places; all of them are boxes, and nothing is full.
func sized(rooms, players int, where ...api.Place) api.World {
	w := api.World{
		Desc:  api.Desc{Exits: make([][4]int, rooms), Players: make([]int, players), Coins: make([]int, players), Room: 64, Player: 64, Box: 64},
		At:    make([]int, players),
		Coins: make([]int, players),
		Where: where,
	}
	for range where {
		w.Desc.Items = append(w.Desc.Items, 0)
		w.Desc.Boxes = append(w.Desc.Boxes, true)
	}
	return w
}

// placed is a right world of three rooms and three players.
func placed(t *testing.T, where ...api.Place) api.World {
	t.Helper()
	w := sized(3, 3, where...)
	checkRight(t, w)
	return w
}

// checkRight sees to it that a test speaks of a right world.
func checkRight(t *testing.T, w api.World) {
	t.Helper()
	if !desc.Right(w) {
		t.Fatalf("%+v isn't right", w)
	}
}

// checkItem holds an item's root, depth and height against these.
func checkItem(t *testing.T, w api.World, item int, root api.Place, depth, height int) {
	t.Helper()
	if got := Root(w, item); got != root {
		t.Errorf("Root of %d is %v, not %v, of %v", item, got, root, w.Where)
	}
	if got := Depth(w, item); got != depth {
		t.Errorf("Depth of %d is %d, not %d, of %v", item, got, depth, w.Where)
	}
	if got := Height(w, item); got != height {
		t.Errorf("Height of %d is %d, not %d, of %v", item, got, height, w.Where)
	}
}

// checkWithin holds Within against the list of the boxes within which the item is.
func checkWithin(t *testing.T, w api.World, item int, boxes ...int) {
	t.Helper()
	for box := range w.Where {
		if got := Within(w, item, box); got != slices.Contains(boxes, box) {
			t.Errorf("Within of %d, %d is %v, of %v", item, box, got, w.Where)
		}
	}
}

func checkIn(t *testing.T, w api.World, p api.Place, want ...int) {
	t.Helper()
	if got := In(w, p); !slices.Equal(got, want) {
		t.Errorf("In of %v is %v, not %v, of %v", p, got, want, w.Where)
	}
}

// checkUnder holds Under against these items, each of which is to be told with its own place.
func checkUnder(t *testing.T, w api.World, p api.Place, want ...int) {
	t.Helper()
	var seen []api.Seen
	for _, item := range want {
		seen = append(seen, api.Seen{Item: item, At: w.Where[item]})
	}
	if got := Under(w, p); !slices.Equal(got, seen) {
		t.Errorf("Under of %v is %v, not %v, of %v", p, got, seen, w.Where)
	}
}

func checkRoom(t *testing.T, w api.World, p api.Place, want int) {
	t.Helper()
	if got := Room(w, p); got != want {
		t.Errorf("Room of %v is %d, not %d, of %v", p, got, want, w.Where)
	}
}

// roots are the rooms and players that a world has.
func roots(w api.World) []api.Place {
	var list []api.Place
	for id := range w.Desc.Exits {
		list = append(list, inRoom(id))
	}
	for id := range w.Desc.Players {
		list = append(list, inPlayer(id))
	}
	return list
}

// P7.1

func TestAnItemInEachRoomAndWithEachPlayer(t *testing.T) {
	for rooms := 1; rooms <= 8; rooms++ {
		for players := 1; players <= 6; players++ {
			where := roots(sized(rooms, players))
			w := sized(rooms, players, where...)
			checkRight(t, w)
			for item, at := range where {
				checkItem(t, w, item, at, 0, 0)
				checkWithin(t, w, item, item)
				checkIn(t, w, at, item)
				checkUnder(t, w, at, item)
				checkRoom(t, w, at, 63)
			}
		}
	}
}

func TestAnItemInABox(t *testing.T) {
	for _, root := range roots(sized(3, 3)) {
		w := placed(t, root, inBox(0))
		checkItem(t, w, 0, root, 0, 1)
		checkItem(t, w, 1, root, 1, 0)
		checkWithin(t, w, 0, 0)
		checkWithin(t, w, 1, 0, 1)
		w = placed(t, inBox(1), root)
		checkItem(t, w, 0, root, 1, 0)
		checkItem(t, w, 1, root, 0, 1)
		checkWithin(t, w, 0, 0, 1)
		checkWithin(t, w, 1, 1)
	}
}

// orders are in which items, from the highest to the lowest one, are one in another.
var orders = [][]int{{0, 1, 2, 3, 4}, {4, 3, 2, 1, 0}, {2, 0, 4, 1, 3}, {1, 4, 0, 3, 2}}

func TestBoxesInBoxesAsDeepAsMayBe(t *testing.T) {
	for _, root := range []api.Place{inRoom(0), inRoom(2), inPlayer(0), inPlayer(2)} {
		for _, order := range orders {
			for deepest := range 5 {
				where := []api.Place{inRoom(1), inRoom(1), inRoom(1), inRoom(1), inRoom(1)}
				where[order[0]] = root
				for depth := 1; depth <= deepest; depth++ {
					where[order[depth]] = inBox(order[depth-1])
				}
				w := placed(t, where...)
				for depth, item := range order[:deepest+1] {
					checkItem(t, w, item, root, depth, deepest-depth)
					checkWithin(t, w, item, order[:depth+1]...)
				}
				for _, item := range order[deepest+1:] {
					checkItem(t, w, item, inRoom(1), 0, 0)
					checkWithin(t, w, item, item)
				}
			}
		}
	}
}

func TestHeightOfChainsOfUnlikeLength(t *testing.T) {
	// In the box 4 are: the item 0; the box 6 with the item 5; the box 1 with the box 8 with the item 3; the empty box 7. The item 2 is no box.
	w := placed(t, inBox(4), inBox(4), inRoom(0), inBox(8), inPlayer(1), inBox(6), inBox(4), inBox(4), inBox(1))
	w.Desc.Boxes = []bool{false, true, false, false, true, false, true, true, true}
	checkRight(t, w)
	depths := []int{1, 1, 0, 3, 0, 2, 1, 1, 2}
	heights := []int{0, 2, 0, 0, 3, 0, 1, 0, 1}
	for item := range w.Where {
		root := inPlayer(1)
		if item == 2 {
			root = inRoom(0)
		}
		checkItem(t, w, item, root, depths[item], heights[item])
	}
	w.Where[2] = inBox(7) // the last chain grows, and isn't the longest one yet
	checkItem(t, w, 4, inPlayer(1), 0, 3)
	checkItem(t, w, 7, inPlayer(1), 1, 1)
	w.Where[3] = inBox(4) // the longest chain shrinks
	checkItem(t, w, 4, inPlayer(1), 0, 2)
	checkItem(t, w, 8, inPlayer(1), 2, 0)
}

func TestHeightIsLessTheItemsOwnDepth(t *testing.T) {
	// Two boxes of one root, one of which holds more, and a deep one elsewhere.
	w := placed(t, inRoom(1), inBox(0), inBox(1), inRoom(1), inPlayer(0), inBox(4), inBox(5), inBox(6), inBox(7))
	for item, want := range []int{2, 1, 0, 0, 4, 3, 2, 1, 0} {
		if got := Height(w, item); got != want {
			t.Errorf("Height of %d is %d, not %d", item, got, want)
		}
	}
}

func TestWithin(t *testing.T) {
	// The boxes 0 and 5 have two items each: 1 and 2, and 6 and 7; in 2 is 3, and in that 4.
	w := placed(t, inRoom(0), inBox(0), inBox(0), inBox(2), inBox(3), inRoom(0), inBox(5), inBox(5))
	for _, x := range []struct {
		why       string
		item, box int
		want      bool
	}{
		{"an item within itself", 4, 4, true},
		{"a box within itself", 0, 0, true},
		{"an empty box within itself", 1, 1, true},
		{"in the box", 1, 0, true},
		{"in a box in the box", 3, 0, true},
		{"far below the box", 4, 0, true},
		{"in a box that isn't the highest one", 4, 2, true},
		{"two items of one box", 1, 2, false},
		{"two items of one box, the other way", 2, 1, false},
		{"an item, and what is in another one of the same box", 3, 1, false},
		{"items of two boxes", 1, 6, false},
		{"items of two boxes, the other way", 6, 1, false},
		{"an item, and another box", 4, 5, false},
		{"a box, and what is in it", 0, 1, false},
		{"a box, and what is in a box in it", 0, 3, false},
		{"a box, and what is far below it", 0, 4, false},
		{"a box, and another one in the same room", 0, 5, false},
	} {
		if got := Within(w, x.item, x.box); got != x.want {
			t.Errorf("%s: Within of %d, %d is %v", x.why, x.item, x.box, got)
		}
	}
}

func TestPlacesOfOneNumberAreOthers(t *testing.T) {
	w := placed(t, inRoom(1), inPlayer(1), inBox(1), inRoom(0), inPlayer(0), inBox(0))
	checkItem(t, w, 0, inRoom(1), 0, 1)
	checkItem(t, w, 1, inPlayer(1), 0, 1)
	checkItem(t, w, 2, inPlayer(1), 1, 0)
	checkItem(t, w, 5, inRoom(1), 1, 0)
	for item := range w.Where {
		checkWithin(t, w, item, [][]int{{0}, {1}, {1, 2}, {3}, {4}, {0, 5}}[item]...)
	}
	checkIn(t, w, inRoom(0), 3)
	checkIn(t, w, inPlayer(0), 4)
	checkIn(t, w, inBox(0), 5)
	checkUnder(t, w, inRoom(0), 3)
	checkUnder(t, w, inPlayer(0), 4)
	checkUnder(t, w, inRoom(1), 0, 5)
	checkUnder(t, w, inPlayer(1), 1, 2)
}

// P7.2

func TestPlacesThatHaveNothing(t *testing.T) {
	for _, w := range []api.World{placed(t), placed(t, inRoom(1), inBox(0), inPlayer(1))} {
		for _, p := range []api.Place{inRoom(0), inRoom(2), inPlayer(0), inPlayer(2)} {
			checkIn(t, w, p)
			checkUnder(t, w, p)
			checkRoom(t, w, p, 64)
		}
	}
}

func TestItemsRise(t *testing.T) {
	// With the player 1 are 5, 2 and 0; in 5 are 4 and 1, in 2 are 6 and 3: what is told later is as often above as below.
	w := placed(t, inPlayer(1), inBox(5), inPlayer(1), inBox(2), inBox(5), inPlayer(1), inBox(2), inRoom(1))
	checkIn(t, w, inPlayer(1), 0, 2, 5)
	checkIn(t, w, inBox(5), 1, 4)
	checkIn(t, w, inBox(2), 3, 6)
	checkIn(t, w, inRoom(1), 7)
	checkUnder(t, w, inPlayer(1), 0, 1, 2, 3, 4, 5, 6)
	checkUnder(t, w, inRoom(1), 7)
}

func TestItemsRiseInWhateverOrderTheyAreInOneAnother(t *testing.T) {
	for _, order := range orders {
		where := make([]api.Place, 5)
		where[order[0]] = inRoom(2)
		for depth := 1; depth < 5; depth++ {
			where[order[depth]] = inBox(order[depth-1])
		}
		w := placed(t, where...)
		checkIn(t, w, inRoom(2), order[0])
		checkUnder(t, w, inRoom(2), 0, 1, 2, 3, 4)
		for depth, item := range order {
			checkIn(t, w, inBox(item), order[depth+1:min(depth+2, 5)]...)
		}
	}
}

func TestUnderTellsEachItemsOwnPlace(t *testing.T) {
	w := placed(t, inPlayer(2), inBox(0), inBox(1), inRoom(2))
	want := []api.Seen{{Item: 0, At: inPlayer(2)}, {Item: 1, At: inBox(0)}, {Item: 2, At: inBox(1)}}
	if got := Under(w, inPlayer(2)); !slices.Equal(got, want) {
		t.Errorf("Under is %v, not %v", got, want)
	}
}

func TestBoxesAndWhatIsNone(t *testing.T) {
	// The box 0 has two items, the box 1 none, and the items 2 and 3 are no boxes.
	w := placed(t, inRoom(0), inPlayer(0), inBox(0), inBox(0))
	w.Desc.Boxes = []bool{true, true, false, false}
	for most := 2; most <= 64; most++ {
		w.Desc.Box = most
		checkRight(t, w)
		checkRoom(t, w, inBox(0), most-2)
		checkRoom(t, w, inBox(1), most)
		checkRoom(t, w, inBox(2), most)
		checkRoom(t, w, inBox(3), most)
	}
	checkIn(t, w, inBox(0), 2, 3)
	checkIn(t, w, inBox(1))
	checkIn(t, w, inBox(2))
	checkIn(t, w, inBox(3))
	w.Where, w.Desc.Box = []api.Place{inRoom(0), inPlayer(0), inRoom(0), inRoom(0)}, 0
	checkRight(t, w)
	for item := range 4 {
		checkRoom(t, w, inBox(item), 0)
	}
}

// setMost sets how much the places of one kind may hold.
func setMost(w *api.World, kind, most int) {
	switch kind {
	case api.InRoom:
		w.Desc.Room = most
	case api.InPlayer:
		w.Desc.Player = most
	case api.InBox:
		w.Desc.Box = most
	}
}

func TestRoomOfPlacesThatFill(t *testing.T) {
	for _, p := range []api.Place{inRoom(0), inRoom(2), inPlayer(0), inPlayer(2), inBox(0), inBox(1)} {
		for most := range 65 {
			for has := range min(most, 14) + 1 { // from an empty one to a full one
				var where []api.Place
				if p.Kind == api.InBox {
					where = []api.Place{inRoom(1), inRoom(1)} // the boxes themselves
				}
				w := sized(3, 3, append(where, slices.Repeat([]api.Place{p}, has)...)...)
				setMost(&w, p.Kind, most)
				checkRight(t, w)
				checkRoom(t, w, p, most-has)
			}
		}
	}
}

func TestRoomOfEachKindIsItsOwn(t *testing.T) {
	w := placed(t, inRoom(1), inPlayer(1), inBox(1), inBox(1))
	w.Desc.Room, w.Desc.Player, w.Desc.Box = 9, 7, 5
	checkRight(t, w)
	checkRoom(t, w, inRoom(1), 8)
	checkRoom(t, w, inPlayer(1), 6)
	checkRoom(t, w, inBox(1), 3)
	checkRoom(t, w, inRoom(0), 9)
	checkRoom(t, w, inPlayer(0), 7)
	checkRoom(t, w, inBox(0), 5)
}

func TestOnlyWhatIsDirectlyThereTakesRoom(t *testing.T) {
	w := placed(t, inPlayer(0), inBox(0), inBox(1), inBox(1), inRoom(2), inBox(4))
	w.Desc.Items = []int{0, 0, 1, 1, 2, 2}
	w.Desc.Room, w.Desc.Player, w.Desc.Box = 2, 1, 2
	checkRight(t, w)
	checkRoom(t, w, inPlayer(0), 0)
	checkRoom(t, w, inBox(0), 1)
	checkRoom(t, w, inBox(1), 0)
	checkRoom(t, w, inRoom(2), 1)
	checkRoom(t, w, inBox(4), 1)
}

// P7.1 to P7.3, of all small worlds

// nested tells, for each item, within which ones it is: in one world, by going on from each pair to the next.
func nested(w api.World) [][]bool {
	within := make([][]bool, len(w.Where))
	for item, at := range w.Where {
		within[item] = make([]bool, len(w.Where))
		within[item][item] = true
		if at.Kind == api.InBox {
			within[item][at.Id] = true
		}
	}
	for mid := range within {
		for item := range within {
			for box := range within {
				within[item][box] = within[item][box] || within[item][mid] && within[mid][box]
			}
		}
	}
	return within
}

// heightOf looks down, where Height looks up.
func heightOf(w api.World, box int) int {
	height := 0
	for item, at := range w.Where {
		if at == inBox(box) {
			height = max(height, 1+heightOf(w, item))
		}
	}
	return height
}

// checkAllItems holds P7.1 against what nested and heightOf tell.
func checkAllItems(t *testing.T, w api.World) {
	t.Helper()
	for item, within := range nested(w) {
		var boxes []int
		var root api.Place
		for box, is := range within {
			if is {
				boxes = append(boxes, box)
			}
			if is && w.Where[box].Kind != api.InBox {
				root = w.Where[box]
			}
		}
		checkItem(t, w, item, root, len(boxes)-1, heightOf(w, item))
		checkWithin(t, w, item, boxes...)
	}
}

// checkDirectly holds In and Room of a place that may hold 64 items against its items.
func checkDirectly(t *testing.T, w api.World, p api.Place) {
	t.Helper()
	var direct []int
	for item, at := range w.Where {
		if at == p {
			direct = append(direct, item)
		}
	}
	checkIn(t, w, p, direct...)
	checkRoom(t, w, p, 64-len(direct))
}

// checkAllPlaces holds P7.2 and P7.3: what hangs from a place is its items and what is within them, and each item hangs from one place.
func checkAllPlaces(t *testing.T, w api.World) {
	t.Helper()
	within := nested(w)
	hangs := make([]int, len(w.Where))
	for _, p := range roots(w) {
		var all []int
		for item := range w.Where {
			for box, at := range w.Where {
				if at == p && within[item][box] {
					all = append(all, item)
					hangs[item]++
				}
			}
		}
		checkDirectly(t, w, p)
		checkUnder(t, w, p, all...)
	}
	if slices.ContainsFunc(hangs, func(times int) bool { return times != 1 }) {
		t.Errorf("items hang from %v places, of %v", hangs, w.Where)
	}
	for box := range w.Where {
		checkDirectly(t, w, inBox(box))
	}
}

// allWorlds calls check for each right world like w whose items are at these places, and tells how many they are.
func allWorlds(w api.World, item int, places []api.Place, check func(api.World)) int {
	if item == len(w.Where) {
		if !desc.Right(w) {
			return 0
		}
		check(w)
		return 1
	}
	right := 0
	for _, at := range places {
		w.Where[item] = at
		right += allWorlds(w, item+1, places, check)
	}
	return right
}

func TestAllSmallWorlds(t *testing.T) {
	for boxes := range 6 {
		w := sized(2, 2, make([]api.Place, 5)...)
		places := roots(w)
		for item := range 5 {
			w.Desc.Boxes[item] = item < boxes
			places = append(places, inBox(item))
		}
		right := allWorlds(w, 0, places, func(w api.World) {
			checkAllItems(t, w)
			checkAllPlaces(t, w)
		})
		if right < 1000 {
			t.Errorf("only %d worlds of %d boxes are right", right, boxes)
		}
	}
}

// P7.3

func TestEachItemHangsFromOnePlace(t *testing.T) {
	w := sized(8, 6, inRoom(7), inBox(0), inPlayer(5), inBox(2), inBox(3), inRoom(0), inBox(5), inBox(6), inBox(7), inBox(8), inBox(2), inPlayer(0), inRoom(3), inBox(12), inBox(12), inPlayer(5))
	checkRight(t, w)
	checkAllItems(t, w)
	checkAllPlaces(t, w)
	found := map[int]api.Place{}
	for _, p := range roots(w) {
		for _, seen := range Under(w, p) {
			if at, twice := found[seen.Item]; twice {
				t.Errorf("%d hangs from %v, and from %v", seen.Item, at, p)
			}
			found[seen.Item] = p
		}
	}
	if len(found) != 16 {
		t.Errorf("only %v hang from a place", found)
	}
}

// P7.4

// roomy is a list like this one, with room behind its length in which something stands.
func roomy[T any](list []T, behind T) []T {
	return append(slices.Clone(list), behind, behind, behind)[:len(list)]
}

// whole is a list with the room behind its length.
func whole[T any](list []T) []T {
	return list[:cap(list)]
}

// roomyWorld has such room behind all its lists; behind Where stand places that would tell, if they were looked at.
func roomyWorld(t *testing.T) api.World {
	w := placed(t, inPlayer(1), inBox(0), inBox(1), inRoom(1), inBox(3), inPlayer(1))
	d := &w.Desc
	d.Exits = roomy(d.Exits, [4]int{0, 1, 2, 0})
	d.Players, d.Coins, d.Items, d.Boxes = roomy(d.Players, 1), roomy(d.Coins, 7), roomy(d.Items, 1), roomy(d.Boxes, true)
	w.At, w.Coins, w.Where = roomy(w.At, 1), roomy(w.Coins, 7), roomy(w.Where, inPlayer(1))
	checkRight(t, w)
	return w
}

// wholeText is all that a world has, with the room behind its lists' lengths.
func wholeText(w api.World) string {
	d := &w.Desc
	d.Exits = whole(d.Exits)
	d.Players, d.Coins, d.Items, d.Boxes = whole(d.Players), whole(d.Coins), whole(d.Items), whole(d.Boxes)
	w.At, w.Coins, w.Where = whole(w.At), whole(w.Coins), whole(w.Where)
	return text(w)
}

func TestWhatIsHandedInStays(t *testing.T) {
	w := roomyWorld(t)
	want := wholeText(w)
	for item := range w.Where {
		Root(w, item)
		Depth(w, item)
		Height(w, item)
		for box := range w.Where {
			Within(w, item, box)
		}
	}
	for _, p := range append(roots(w), inBox(0), inBox(1), inBox(2)) {
		In(w, p)
		Under(w, p)
		Room(w, p)
	}
	if got := wholeText(w); got != want {
		t.Errorf("the world became %s, and was %s", got, want)
	}
}

func TestWhatStandsBehindTheListsIsNotLookedAt(t *testing.T) {
	w := roomyWorld(t)
	checkIn(t, w, inPlayer(1), 0, 5)
	checkUnder(t, w, inPlayer(1), 0, 1, 2, 5)
	checkRoom(t, w, inPlayer(1), 62)
	checkItem(t, w, 0, inPlayer(1), 0, 2)
	whole(w.Where)[6] = inBox(2)
	checkIn(t, w, inBox(2))
	checkItem(t, w, 0, inPlayer(1), 0, 2)
}

// checkNew writes all over what is answered, the room behind its length included: the world, and other answers, are to stay.
func checkNew[T any](t *testing.T, call string, answer func(w api.World) []T, with T) {
	t.Helper()
	w := roomyWorld(t)
	want := wholeText(w)
	first, second := answer(w), answer(w)
	wantSecond := text(whole(second))
	for i := range whole(first) {
		whole(first)[i] = with
	}
	if got := wholeText(w); got != want {
		t.Errorf("%s: the world became %s, and was %s", call, got, want)
	}
	if got := text(whole(second)); got != wantSecond {
		t.Errorf("%s: another answer became %s, and was %s", call, got, wantSecond)
	}
	for i := range whole(w.Where) {
		whole(w.Where)[i] = inRoom(2)
	}
	if got := text(whole(second)); got != wantSecond {
		t.Errorf("%s: an answer became %s, when the world did, and was %s", call, got, wantSecond)
	}
}

func TestWhatIsAnsweredIsNewMemory(t *testing.T) {
	for _, p := range []api.Place{inPlayer(1), inRoom(1), inBox(0), inBox(2), inRoom(0)} {
		checkNew(t, "In", func(w api.World) []int { return In(w, p) }, -9)
	}
	for _, p := range []api.Place{inPlayer(1), inRoom(1), inRoom(0)} {
		checkNew(t, "Under", func(w api.World) []api.Seen { return Under(w, p) }, api.Seen{Item: -9, At: inRoom(-9)})
	}
}

func TestAnswersOfUnlikePlacesShareNoMemory(t *testing.T) {
	w := roomyWorld(t)
	var before []string
	lists, seen := [][]int{}, [][]api.Seen{}
	for _, p := range []api.Place{inPlayer(1), inRoom(1), inBox(0), inBox(1)} {
		lists, seen = append(lists, In(w, p)), append(seen, Under(w, p))
	}
	for i := range lists {
		before = append(before, text(whole(lists[i]))+text(whole(seen[i])))
	}
	for i := range lists {
		if got := text(whole(lists[i])) + text(whole(seen[i])); got != before[i] {
			t.Errorf("the answer %d became %s, and was %s", i, got, before[i])
		}
		for j := range whole(lists[i]) {
			whole(lists[i])[j] = -9
		}
		for j := range whole(seen[i]) {
			whole(seen[i])[j].Item = -9
		}
	}
}

// Whatever is handed in, calls end, and none panics.

// callAll calls all functions with all of these numbers and kinds.
func callAll(w api.World, numbers, kinds []int) {
	for _, item := range numbers {
		Root(w, item)
		Depth(w, item)
		Height(w, item)
		for _, box := range numbers {
			Within(w, item, box)
		}
		for _, kind := range kinds {
			p := api.Place{Kind: kind, Id: item}
			In(w, p)
			Under(w, p)
			Room(w, p)
		}
	}
}

func TestWrongArgumentsEndAndDoNotPanic(t *testing.T) {
	numbers := []int{math.MinInt, -2, -1, 0, 1, 2, 3, 4, 16, 1 << 32, math.MaxInt}
	kinds := []int{math.MinInt, -1, 0, 1, 2, 3, math.MaxInt}
	worlds := []api.World{
		{},
		{Where: []api.Place{{Kind: 2, Id: 1}}},
		sized(1, 1, inRoom(0), inBox(0), inBox(1)),
		sized(1, 1, inBox(0)),
		sized(1, 1, inBox(1), inBox(0)),
		sized(1, 1, inBox(1), inBox(2), inBox(0), inBox(0)),
		sized(1, 1, inBox(-1), inBox(4), inBox(math.MaxInt), inBox(math.MinInt)),
		sized(1, 1, inRoom(-1), inPlayer(9), api.Place{Kind: 3, Id: 1}, api.Place{Kind: -1}),
	}
	for _, w := range worlds {
		callAll(w, numbers, kinds)
	}
	w := sized(1, 1, inRoom(0), inRoom(0), inRoom(0))
	var places []api.Place
	for _, kind := range kinds {
		for _, id := range []int{-1, 0, 1, 2, 3} {
			places = append(places, api.Place{Kind: kind, Id: id})
		}
	}
	for _, first := range places {
		for _, second := range places {
			w.Where[0], w.Where[1] = first, second
			callAll(w, []int{-1, 0, 1, 2, 3}, kinds)
		}
	}
}
