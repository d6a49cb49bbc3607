package boxes

import (
	"fmt"
	"math"
	"slices"
	"testing"

	"innkeep/api"
	"innkeep/desc"
)

const (
	errNone = api.ErrNone
	errAway = api.ErrAway
	errBox  = api.ErrBox
	errLoop = api.ErrLoop
	errDeep = api.ErrDeep
	errFull = api.ErrFull
)

func inRoom(id int) api.Place   { return api.Place{Kind: 0, Id: id} }
func inPlayer(id int) api.Place { return api.Place{Kind: 1, Id: id} }
func inBox(id int) api.Place    { return api.Place{Kind: 2, Id: id} }

// text is all that a value has; nil and empty lists are one in it.
func text(x any) string {
	return fmt.Sprintf("%+v", x)
}

// sized is a world of so many rooms, whose players are in these rooms, and began in others, where there are such; there are no items yet, and nothing gets full soon.
func sized(rooms int, at ...int) api.World {
	w := api.World{Desc: api.Desc{Exits: make([][4]int, rooms), Room: 64, Player: 64, Box: 64}, At: at}
	for p, room := range at {
		w.Desc.Players = append(w.Desc.Players, (room+1)%rooms)
		w.Desc.Coins = append(w.Desc.Coins, 100+p)
		w.Coins = append(w.Coins, 7*p)
	}
	return w
}

// with is a world like w with items more, all of them boxes, at these places; they began in one room after the other.
func with(w api.World, where ...api.Place) api.World {
	w = desc.Copy(w)
	for _, at := range where {
		w.Desc.Items = append(w.Desc.Items, len(w.Where)%len(w.Desc.Exits))
		w.Desc.Boxes = append(w.Desc.Boxes, true)
		w.Where = append(w.Where, at)
	}
	return w
}

// unboxed is a world like w, in new memory, in which these items are no boxes.
func unboxed(w api.World, items ...int) api.World {
	next := desc.Copy(w)
	for _, item := range items {
		next.Desc.Boxes[item] = false
	}
	return next
}

// capped is a world like w, in new memory, in which players and boxes may hold so much.
func capped(w api.World, player, box int) api.World {
	next := desc.Copy(w)
	next.Desc.Player, next.Desc.Box = player, box
	return next
}

// moved is a world like w, in new memory, in which one item is at this place.
func moved(w api.World, item int, at api.Place) api.World {
	next := desc.Copy(w)
	next.Where[item] = at
	return next
}

// wide is a right world of four rooms, four players and sixteen items. The players 0 and 2 are in the room 1, together, and no player is in the room of its own number, but for the last one.
func wide() api.World {
	return unboxed(with(sized(4, 1, 0, 1, 3),
		inPlayer(0), // 0: the first item, with others in it
		inBox(0),    // 1
		inBox(1),    // 2
		inRoom(1),   // 3: on the floor where the player 0 is, with others in it
		inBox(3),    // 4
		inBox(4),    // 5
		inRoom(0),   // 6: on another floor, with others in it
		inBox(6),    // 7
		inPlayer(2), // 8: with another player in that room, with others in it
		inBox(8),    // 9
		inPlayer(1), // 10: with a player elsewhere, with others in it
		inBox(10),   // 11
		inPlayer(0), // 12: no box
		inRoom(1),   // 13: no box
		inRoom(3),   // 14
		inPlayer(0), // 15: the last item
	), 12, 13)
}

// checkRight sees to it that a test speaks of a right world.
func checkRight(t *testing.T, w api.World) {
	t.Helper()
	if !desc.Right(w) {
		t.Fatalf("%+v isn't right", w)
	}
}

// check holds an answer against the world in which the item is at this place, or against w and an error.
func check(t *testing.T, call string, w api.World, item int, at api.Place, wantErr api.Errno, got api.World, err api.Errno) {
	t.Helper()
	want := w
	if wantErr == api.OK {
		want = moved(w, item, at)
	}
	if err != wantErr || !desc.Same(got, want) {
		t.Errorf("%s answers %v, %d, not %v, %d, of %+v", call, got.Where, err, want.Where, wantErr, w)
	}
	if err == api.OK && !desc.Right(got) {
		t.Errorf("%s makes %+v, which isn't right, of %+v", call, got, w)
	}
}

func checkPut(t *testing.T, w api.World, p, item, box int, wantErr api.Errno) {
	t.Helper()
	got, err := Put(w, p, item, box)
	check(t, fmt.Sprintf("Put of %d, %d, %d", p, item, box), w, item, inBox(box), wantErr, got, err)
}

func checkTake(t *testing.T, w api.World, p, item, box int, wantErr api.Errno) {
	t.Helper()
	got, err := Take(w, p, item, box)
	check(t, fmt.Sprintf("Take of %d, %d, %d", p, item, box), w, item, inPlayer(p), wantErr, got, err)
}

// farItems are no numbers of items, where there are so many; all but those below 0 and just past the last one are far from them.
func farItems(items int) []int {
	return []int{math.MinInt, -1 << 32, -items - 1, -2, -1, items, items + 1, 17, 1 << 32, math.MaxInt}
}

// P10.1: Near

func TestNearOfItemsAllOver(t *testing.T) {
	w := wide()
	checkRight(t, w)
	for p, want := range [][]int{
		{0, 1, 2, 3, 4, 5, 12, 13, 15},
		{6, 7, 10, 11},
		{3, 4, 5, 8, 9, 13},
		{14},
	} {
		for item := range w.Where {
			if got := Near(w, p, item); got != slices.Contains(want, item) {
				t.Errorf("Near of %d, %d answers %t", p, item, got)
			}
		}
	}
}

// chained is a world like w with five boxes within one another more, the first of which is at this place.
func chained(w api.World, at api.Place) api.World {
	first := len(w.Where)
	return with(w, at, inBox(first), inBox(first+1), inBox(first+2), inBox(first+3))
}

func TestNearInEachRoomByEachPlayerAsDeepAsMayBe(t *testing.T) {
	for rooms := 1; rooms <= 8; rooms++ {
		for players := 1; players <= 6; players++ {
			for p := range players {
				at := make([]int, players)
				at[p] = rooms - 1
				w := chained(chained(chained(sized(rooms, at...), inRoom(rooms-1)), inPlayer(p)), inRoom(0))
				checkRight(t, w)
				for other := range players {
					here := other == p || rooms == 1
					want := slices.Concat(slices.Repeat([]bool{here}, 5), slices.Repeat([]bool{other == p}, 5), slices.Repeat([]bool{other != p || rooms == 1}, 5))
					for item := range want {
						if got := Near(w, other, item); got != want[item] {
							t.Errorf("Near of %d, %d answers %t, of %+v", other, item, got, w)
						}
					}
				}
			}
		}
	}
}

func TestNearGoesByWherePlayersAndItemsAre(t *testing.T) {
	w := with(sized(2, 1), inRoom(0), inRoom(1), inBox(0), inBox(1))
	w.Desc.Items = []int{1, 0, 1, 0} // where they began
	checkRight(t, w)
	for item, want := range []bool{false, true, false, true} {
		if got := Near(w, 0, item); got != want {
			t.Errorf("Near of 0, %d answers %t", item, got)
		}
	}
}

func TestNothingIsNearToNobodyAndNoItemIsNear(t *testing.T) {
	w := with(sized(1, 0), inRoom(0), inPlayer(0))
	for _, item := range farItems(len(w.Where)) {
		if Near(w, 0, item) {
			t.Errorf("%d is near", item)
		}
	}
	for _, p := range []int{math.MinInt, -1, 1, 6, math.MaxInt} {
		for item := range w.Where {
			if Near(w, p, item) {
				t.Errorf("%d is near to %d", item, p)
			}
		}
	}
}

// P10.1: Put

func TestPut(t *testing.T) {
	w := wide()
	checkRight(t, w)
	for _, x := range []struct {
		why          string
		p, item, box int
		want         api.Errno
	}{
		{"the first item into the last one", 0, 0, 15, api.OK},
		{"the last item into the first one", 0, 15, 0, api.OK},
		{"into a box that one has", 0, 12, 0, api.OK},
		{"into a box in it", 0, 12, 1, api.OK},
		{"into a box in that", 0, 12, 2, api.OK},
		{"into a box on the floor here", 0, 12, 3, api.OK},
		{"into a box in it", 0, 12, 4, api.OK},
		{"into a box in that", 0, 12, 5, api.OK},
		{"a box with others in it, on the floor here", 0, 0, 3, api.OK},
		{"a box with others in it, as deep as may be", 0, 0, 4, api.OK},
		{"a box with others in it, too deep", 0, 0, 5, errDeep},
		{"by another one who is here", 2, 8, 3, api.OK},
		{"by another one who is here, as deep as may be", 2, 8, 5, api.OK},
		{"by one elsewhere", 1, 10, 6, api.OK},
		{"by one elsewhere, into a box in a box", 1, 10, 7, api.OK},
		{"into a box in another room", 0, 12, 6, errAway},
		{"into a box in it", 0, 12, 7, errAway},
		{"into a box that another one here has", 0, 12, 8, errAway},
		{"into a box in it", 0, 12, 9, errAway},
		{"into a box that one elsewhere has", 0, 12, 10, errAway},
		{"into a box in it", 0, 12, 11, errAway},
		{"into a box on the floor of yet another room", 0, 12, 14, errAway},
		{"what is on the floor here", 0, 13, 0, errAway},
		{"a box that is on the floor here", 0, 3, 0, errAway},
		{"what is in a box that one has", 0, 1, 15, errAway},
		{"what is in that", 0, 2, 15, errAway},
		{"what is in the very box", 0, 1, 0, errAway},
		{"what is in a box on the floor here", 0, 4, 0, errAway},
		{"what is on another floor", 0, 6, 0, errAway},
		{"what another one here has", 0, 8, 0, errAway},
		{"what one elsewhere has", 0, 10, 0, errAway},
		{"into what is no box, and one has", 0, 0, 12, errBox},
		{"into what is no box, and is here", 0, 0, 13, errBox},
		{"a box into itself", 0, 0, 0, errLoop},
		{"a box with none in it into itself", 0, 15, 15, errLoop},
		{"a box into what is in it", 0, 0, 1, errLoop},
		{"a box into what is in that", 0, 0, 2, errLoop},
		{"an item below the first one", 0, -1, 0, errNone},
		{"an item just past the last one", 0, 16, 0, errNone},
		{"a box below the first one", 0, 0, -1, errNone},
		{"a box just past the last one", 0, 0, 16, errNone},
		{"neither item nor box", 0, -1, 16, errNone},
	} {
		if _, err := Put(w, x.p, x.item, x.box); err != x.want {
			t.Errorf("%s: error %d", x.why, err)
		}
		checkPut(t, w, x.p, x.item, x.box, x.want)
	}
}

func TestPutOfItemsAndBoxesThatThereAreNot(t *testing.T) {
	for items := range 17 {
		w := with(sized(2, 1, 0), slices.Repeat([]api.Place{inPlayer(0)}, items)...)
		checkRight(t, w)
		for _, number := range farItems(items) {
			if number >= 0 && number < items {
				continue
			}
			for there := range items {
				checkPut(t, w, 0, number, there, errNone)
				checkPut(t, w, 0, there, number, errNone)
				checkTake(t, w, 0, number, there, errNone)
				checkTake(t, w, 0, there, number, errNone)
			}
			checkPut(t, w, 0, number, number, errNone)
			checkTake(t, w, 0, number, number, errNone)
		}
	}
}

// stacks is a world of one room in which a stack of boxes, so many within one another, is with the player, and another one on the floor; the outermost ones are top and low.
func stacks(mine, floor int) (w api.World, top, low int) {
	w = sized(1, 0)
	for n := range mine {
		at := inPlayer(0)
		if n > 0 {
			at = inBox(len(w.Where) - 1)
		}
		w = with(w, at)
	}
	for n := range floor {
		at := inRoom(0)
		if n > 0 {
			at = inBox(len(w.Where) - 1)
		}
		w = with(w, at)
	}
	return w, 0, mine
}

func TestPutAsDeepAsMayBe(t *testing.T) {
	for mine := 1; mine <= 5; mine++ {
		for floor := 1; floor <= 5; floor++ {
			w, top, low := stacks(mine, floor)
			checkRight(t, w)
			for n := range floor { // into the box above which there are n, so that above the deepest one there are n+1, and those of its own stack
				wantErr := errDeep
				if n+1+mine-1 <= 4 {
					wantErr = api.OK
				}
				checkPut(t, w, 0, top, low+n, wantErr)
				checkPut(t, unboxed(w, mine-1), 0, top, low+n, wantErr) // what is deepest is no box
			}
		}
	}
}

func TestPutAsksForTheDeepestOfAll(t *testing.T) {
	w, top, low := stacks(1, 3)
	deepest := low + 2
	w = with(w, inBox(top), inBox(top), inBox(top)) // 4, 5, 6
	checkRight(t, w)
	checkPut(t, w, 0, top, deepest, api.OK)
	w = with(w, inBox(5)) // 7: below the one in the middle
	checkRight(t, w)
	checkPut(t, w, 0, top, deepest, errDeep)
	checkPut(t, w, 0, top, deepest-1, api.OK)
	w = with(w, inBox(7)) // 8
	checkRight(t, w)
	checkPut(t, w, 0, top, deepest-1, errDeep)
	checkPut(t, w, 0, top, low, api.OK)
	w = with(w, inBox(deepest), inBox(9)) // 9, 10: what else is in the box doesn't count
	checkRight(t, w)
	checkPut(t, w, 0, top, low, api.OK)
}

func TestPutInBoxesThatGetFull(t *testing.T) {
	for most := range 17 {
		w := capped(with(sized(1, 0), slices.Repeat([]api.Place{inPlayer(0)}, 16)...), 16, most)
		checkRight(t, w)
		for item := range 15 { // up to the last that it may hold, and on
			wantErr := api.OK
			if item >= most {
				wantErr = errFull
			}
			checkPut(t, w, 0, item, 15, wantErr)
			w, _ = Put(w, 0, item, 15)
		}
	}
}

func TestPutAsksOnlyHowMuchThisBoxHasDirectly(t *testing.T) {
	w := capped(with(sized(1, 0), inPlayer(0), inRoom(0), inBox(1), inBox(2), inBox(2), inRoom(0), inBox(0), inBox(0)), 64, 2)
	checkRight(t, w)
	checkPut(t, w, 0, 0, 1, api.OK)  // what is in the box in it isn't counted, nor what is in the item
	checkPut(t, w, 0, 0, 2, errFull) // another box isn't full
	checkPut(t, w, 0, 0, 5, api.OK)  // another box is full
}

func TestPutAsksNothingOfRoomsAndPlayers(t *testing.T) {
	w := capped(with(sized(1, 0), inPlayer(0), inRoom(0), inBox(1)), 1, 2)
	w.Desc.Items, w.Desc.Exits, w.Desc.Room = []int{0, 1, 2}, make([][4]int, 3), 1
	checkRight(t, w)
	checkPut(t, w, 0, 0, 1, api.OK)
	checkPut(t, w, 0, 0, 2, api.OK)
}

func TestTheFirstOfSeveralErrorsOfPut(t *testing.T) {
	w := wide()
	checkPut(t, capped(w, 64, 1), 0, -1, 0, errNone) // and the box is full
	checkPut(t, w, 0, -1, 6, errNone)                // and the box is away
	checkPut(t, w, 0, 16, 12, errNone)               // and the box is none
	checkPut(t, w, 0, 13, -1, errNone)               // and the item is away
	checkPut(t, w, 0, 13, 16, errNone)

	checkPut(t, w, 0, 13, 12, errAway)                // the item is away, and the box is none
	checkPut(t, w, 0, 13, 13, errAway)                // in itself, too
	checkPut(t, w, 0, 3, 3, errAway)                  // the item is away, and in itself
	checkPut(t, w, 0, 3, 4, errAway)                  // and in what is in it
	checkPut(t, w, 0, 3, 2, errAway)                  // and too deep
	checkPut(t, capped(w, 64, 1), 0, 13, 0, errAway)  // and the box is full
	checkPut(t, capped(w, 64, 1), 0, 12, 6, errAway)  // the box is away, and full
	checkPut(t, unboxed(w, 14), 0, 12, 14, errAway)   // the box is away, and none
	checkPut(t, capped(w, 64, 1), 0, 13, 10, errAway) // item and box are away, and it is full
	far := chained(sized(2, 0), inRoom(1))
	far = with(far, inPlayer(0))
	checkRight(t, far)
	checkPut(t, far, 0, 5, 4, errAway) // the box is away, and too deep

	checkPut(t, w, 0, 12, 12, errBox) // no box, into itself
	w = unboxed(w, 2)
	checkRight(t, w)
	checkPut(t, w, 0, 0, 2, errBox)             // no box, in the item
	checkPut(t, unboxed(w, 5), 0, 0, 5, errBox) // no box, and too deep
	flat := capped(with(sized(1, 0), inPlayer(0), inRoom(0)), 1, 0)
	checkRight(t, flat)
	checkPut(t, unboxed(flat, 1), 0, 0, 1, errBox) // no box, and no box may hold anything
	checkPut(t, flat, 0, 0, 0, errLoop)            // into itself, and it may hold no more
	checkPut(t, flat, 0, 0, 1, errFull)            // this alone

	w, top, low := stacks(3, 4)
	checkRight(t, w)
	checkPut(t, w, 0, top, top+2, errLoop)               // into what is in what is in it, and too deep
	checkPut(t, capped(w, 1, 1), 0, top, top+1, errLoop) // and full
	checkPut(t, capped(w, 1, 1), 0, top, low+2, errDeep) // too deep, and full
	checkPut(t, capped(w, 1, 1), 0, top, low+1, errFull) // this alone
}

// P10.2: Take

func TestTake(t *testing.T) {
	w := wide()
	w.Where[12], w.Where[13] = inBox(15), inBox(5)
	checkRight(t, w)
	for _, x := range []struct {
		why          string
		p, item, box int
		want         api.Errno
	}{
		{"out of the first item, that one has", 0, 1, 0, api.OK},
		{"out of a box in it", 0, 2, 1, api.OK},
		{"out of the last item", 0, 12, 15, api.OK},
		{"out of a box on the floor here", 0, 4, 3, api.OK},
		{"out of a box in it", 0, 5, 4, api.OK},
		{"what is no box, out of a box in that", 0, 13, 5, api.OK},
		{"by another one who is here", 2, 4, 3, api.OK},
		{"by one elsewhere", 1, 7, 6, api.OK},
		{"by one elsewhere, out of a box that it has", 1, 11, 10, api.OK},
		{"out of a box in another room", 0, 7, 6, errAway},
		{"out of a box that another one here has", 0, 9, 8, errAway},
		{"out of a box that another one here has, the other way round", 2, 1, 0, errAway},
		{"out of a box in that", 2, 2, 1, errAway},
		{"out of a box that one elsewhere has", 0, 11, 10, errAway},
		{"what is in the box in the box", 0, 2, 0, errAway},
		{"what is in the box in the box on the floor", 0, 5, 3, errAway},
		{"what is in another box", 0, 4, 0, errAway},
		{"the box above, out of what is in it", 0, 0, 1, errAway},
		{"a box out of itself", 0, 0, 0, errAway},
		{"a box on the floor out of itself", 0, 3, 3, errAway},
		{"what one has", 0, 15, 0, errAway},
		{"what is on the floor", 0, 3, 0, errAway},
		{"what is on another floor", 0, 6, 3, errAway},
		{"what another one has", 0, 8, 3, errAway},
		{"out of what is no box, and one has", 0, 1, 12, errBox},
		{"out of what is no box, and is here", 0, 4, 13, errBox},
		{"an item below the first one", 0, -1, 0, errNone},
		{"an item just past the last one", 0, 16, 0, errNone},
		{"a box below the first one", 0, 0, -1, errNone},
		{"a box just past the last one", 0, 0, 16, errNone},
		{"neither item nor box", 0, -1, 16, errNone},
	} {
		if _, err := Take(w, x.p, x.item, x.box); err != x.want {
			t.Errorf("%s: error %d", x.why, err)
		}
		checkTake(t, w, x.p, x.item, x.box, x.want)
	}
}

func TestTakeOfTheFirstItemAndTheLast(t *testing.T) {
	w := with(sized(1, 0), append(slices.Repeat([]api.Place{inBox(7)}, 7), inRoom(0))...)
	w = with(w, slices.Repeat([]api.Place{inBox(7)}, 8)...)
	checkRight(t, w)
	for item := range w.Where {
		wantErr := api.OK
		if item == 7 {
			wantErr = errAway
		}
		checkTake(t, w, 0, item, 7, wantErr)
	}
}

func TestTakeByPlayersWhoGetFull(t *testing.T) {
	for most := 1; most <= 17; most++ {
		w := capped(with(sized(1, 0, 0), append(slices.Repeat([]api.Place{inBox(15)}, 15), inPlayer(0))...), most, 16)
		checkRight(t, w)
		for item := range 15 { // up to the last that it may hold, beside the box, and on
			wantErr := api.OK
			if item+1 >= most {
				wantErr = errFull
			}
			checkTake(t, w, 0, item, 15, wantErr)
			w, _ = Take(w, 0, item, 15)
		}
	}
}

func TestTakeByPlayersWhoMayHoldNothing(t *testing.T) {
	w := capped(with(sized(1, 0), inRoom(0), inBox(0), inBox(1)), 0, 1)
	checkRight(t, w)
	checkTake(t, w, 0, 1, 0, errFull)
	checkTake(t, w, 0, 2, 1, errFull)
	checkTake(t, w, 0, 2, 0, errAway)
}

func TestTakeAsksOnlyHowMuchThisPlayerHasDirectly(t *testing.T) {
	w := capped(with(sized(1, 0, 0), inRoom(0), inBox(0), inPlayer(0), inBox(2), inBox(2), inPlayer(1), inPlayer(1), inBox(1), inBox(1)), 2, 2)
	checkRight(t, w)
	checkTake(t, w, 0, 1, 0, api.OK) // what is in its box isn't counted, nor what is in the item; another player is full
	checkTake(t, w, 0, 3, 2, api.OK)
	checkTake(t, w, 1, 1, 0, errFull)
}

func TestTakeAsksNothingOfRoomsAndBoxes(t *testing.T) {
	w := capped(with(sized(1, 0), inRoom(0), inBox(0), inBox(1)), 1, 1)
	w.Desc.Items, w.Desc.Exits, w.Desc.Room = []int{0, 1, 2}, make([][4]int, 3), 1
	checkRight(t, w)
	checkTake(t, w, 0, 1, 0, api.OK)
	checkTake(t, w, 0, 2, 1, api.OK)
}

func TestTheFirstOfSeveralErrorsOfTake(t *testing.T) {
	w := capped(wide(), 3, 64) // the player 0 may hold no more
	checkRight(t, w)
	checkTake(t, w, 0, -1, 0, errNone)  // and the player is full
	checkTake(t, w, 0, -1, 6, errNone)  // and the box is away
	checkTake(t, w, 0, 16, 12, errNone) // and the box is none
	checkTake(t, w, 0, 13, -1, errNone) // and the item is elsewhere
	checkTake(t, w, 0, 13, 16, errNone)

	checkTake(t, w, 0, 7, 6, errAway)                // the box is away, and the player is full
	checkTake(t, unboxed(w, 14), 0, 13, 14, errAway) // the box is away, and none
	checkTake(t, w, 0, 4, 6, errAway)                // the box is away, and the item elsewhere

	checkTake(t, w, 0, 4, 13, errBox)  // no box, the item is elsewhere, and the player is full
	checkTake(t, w, 0, 13, 13, errBox) // no box, out of itself
	checkTake(t, w, 0, 12, 12, errBox)

	checkTake(t, w, 0, 4, 0, errAway) // the item is elsewhere, and the player is full
	checkTake(t, w, 0, 2, 0, errAway)
	checkTake(t, w, 0, 1, 0, errFull) // this alone
}

// P10.1 to P10.3, of all small worlds

// climb is what is above an item: the boxes, from its own on, and the place from which it hangs.
func climb(w api.World, item int) (above []int, root api.Place) {
	root = w.Where[item]
	for root.Kind == 2 {
		above = append(above, root.Id)
		root = w.Where[root.Id]
	}
	return above, root
}

func wantNear(w api.World, p, item int) bool {
	_, root := climb(w, item)
	return root.Kind == 0 && root.Id == w.At[p] || root.Kind == 1 && root.Id == p
}

// has counts the items that are directly at a place.
func has(w api.World, kind, id int) int {
	many := 0
	for _, at := range w.Where {
		if at.Kind == kind && at.Id == id {
			many++
		}
	}
	return many
}

// fullest is how much the place of a kind has that has most.
func fullest(w api.World, kind int) int {
	most := 0
	for id := range 16 {
		most = max(most, has(w, kind, id))
	}
	return most
}

// tooDeep tells whether something has more than four boxes above it.
func tooDeep(w api.World) bool {
	for item := range w.Where {
		if above, _ := climb(w, item); len(above) > 4 {
			return true
		}
	}
	return false
}

// wantPut is the error that comes of Put.
func wantPut(w api.World, p, item, box int) api.Errno {
	if item < 0 || box < 0 || item >= len(w.Where) || box >= len(w.Where) {
		return errNone
	}
	if at := w.Where[item]; at.Kind != 1 || at.Id != p || !wantNear(w, p, box) {
		return errAway
	}
	if !w.Desc.Boxes[box] {
		return errBox
	}
	if above, _ := climb(w, box); item == box || slices.Contains(above, item) {
		return errLoop
	}
	if tooDeep(moved(w, item, inBox(box))) {
		return errDeep
	}
	if has(w, 2, box) == w.Desc.Box {
		return errFull
	}
	return api.OK
}

// wantTake is the error that comes of Take.
func wantTake(w api.World, p, item, box int) api.Errno {
	if item < 0 || box < 0 || item >= len(w.Where) || box >= len(w.Where) {
		return errNone
	}
	if !wantNear(w, p, box) {
		return errAway
	}
	if !w.Desc.Boxes[box] {
		return errBox
	}
	if at := w.Where[item]; at.Kind != 2 || at.Id != box {
		return errAway
	}
	if has(w, 1, p) == w.Desc.Player {
		return errFull
	}
	return api.OK
}

// checkAll holds all calls of a world against what the chapter says, and counts the errors of Put that came of it.
func checkAll(t *testing.T, w api.World, met map[api.Errno]int) {
	t.Helper()
	for p := range w.At {
		for item := range w.Where {
			if got := Near(w, p, item); got != wantNear(w, p, item) {
				t.Errorf("Near of %d, %d answers %t, of %+v", p, item, got, w)
			}
		}
		for item := -1; item <= len(w.Where); item++ {
			for box := -1; box <= len(w.Where); box++ {
				put := wantPut(w, p, item, box)
				met[put]++
				checkPut(t, w, p, item, box, put)
				checkTake(t, w, p, item, box, wantTake(w, p, item, box))
				checkThereAndBack(t, w, p, item, box)
			}
		}
	}
}

// checkThereAndBack does what may be done, and its contrary at once, which may always be done.
func checkThereAndBack(t *testing.T, w api.World, p, item, box int) {
	t.Helper()
	if put, err := Put(w, p, item, box); err == api.OK {
		if again, err := Take(put, p, item, box); err != api.OK || !desc.Same(again, w) {
			t.Errorf("Take behind Put of %d, %d, %d answers %+v, %d, of %+v", p, item, box, again, err, w)
		}
	}
	if taken, err := Take(w, p, item, box); err == api.OK {
		if again, err := Put(taken, p, item, box); err != api.OK || !desc.Same(again, w) {
			t.Errorf("Put behind Take of %d, %d, %d answers %+v, %d, of %+v", p, item, box, again, err, w)
		}
	}
}

// allWorlds calls check with each right world like w in which the items from this one on are at one of the places that are told of it, and tells how many they are.
func allWorlds(w api.World, item int, places func(item int) []api.Place, check func(api.World)) int {
	if item < len(w.Where) {
		many := 0
		for _, at := range places(item) {
			w.Where[item] = at
			many += allWorlds(w, item+1, places, check)
		}
		return many
	}
	if !desc.Right(w) {
		return 0
	}
	check(w)
	return 1
}

func TestAllSmallWorlds(t *testing.T) {
	places := func(int) []api.Place {
		return []api.Place{inRoom(0), inRoom(1), inPlayer(0), inPlayer(1), inBox(0), inBox(1), inBox(2)}
	}
	met := map[api.Errno]int{}
	for at := range 4 { // two players in two rooms
		w := with(sized(2, at%2, at/2), inRoom(0), inRoom(0), inRoom(0))
		for box := range 3 {
			for player := range 4 {
				for boxes := range 8 {
					w := capped(w, player, box)
					for item := range w.Desc.Boxes {
						w.Desc.Boxes[item] = boxes>>item&1 == 1
					}
					if many := allWorlds(w, 0, places, func(w api.World) { checkAll(t, w, met) }); many < 8 {
						t.Fatalf("only %d worlds", many)
					}
				}
			}
		}
	}
	for _, err := range []api.Errno{api.OK, errNone, errAway, errBox, errLoop, errFull} {
		if met[err] < 50 {
			t.Errorf("the error %d came %d times", err, met[err])
		}
	}
}

func TestAllShapesOfSixItems(t *testing.T) {
	places := func(item int) []api.Place { // in no item behind itself: the shapes are all there
		list := []api.Place{inRoom(0), inPlayer(0)}
		for box := range item {
			list = append(list, inBox(box))
		}
		return list
	}
	for most := 1; most <= 2; most++ {
		met := map[api.Errno]int{}
		w := capped(with(sized(1, 0), slices.Repeat([]api.Place{inRoom(0)}, 6)...), 5, most)
		if many := allWorlds(w, 0, places, func(w api.World) { checkAll(t, w, met) }); many < 1000 {
			t.Fatalf("only %d worlds", many)
		}
		if met[errDeep] < 50 || met[errFull] < 50 {
			t.Errorf("the errors came so often: %v", met)
		}
	}
}

func TestWorldsAsLargeAsMayBe(t *testing.T) {
	met := map[api.Errno]int{}
	for seed := range 48 {
		at := make([]int, 6)
		for p := range at {
			at[p] = (seed + p*p*seed/3) % 8
		}
		w := sized(8, at...)
		for item := range 16 { // each in a box ahead of it, but for some
			n := (item*item + seed*(item+3)) % 13
			place := []api.Place{inRoom(at[n%6]), inPlayer(n % 6), inBox(n * item / 13), inBox(max(item-1, 0))}[n%4]
			if next := with(w, place); item > 0 && !tooDeep(next) {
				w = next
			} else {
				w = with(w, inPlayer(n%6))
			}
		}
		w = capped(w, fullest(w, 1), fullest(w, 2))
		w.Desc.Boxes[15] = false
		checkRight(t, w)
		checkAll(t, w, met)
	}
	for _, err := range []api.Errno{api.OK, errNone, errAway, errBox, errLoop, errDeep, errFull} {
		if met[err] == 0 {
			t.Errorf("the error %d never came", err)
		}
	}
}

// P10.3

// checkStay sees to it that behind a call only this item may be elsewhere, and that all players, coins, and the description are as they were.
func checkStay(t *testing.T, call string, w, next api.World, item int) {
	t.Helper()
	if len(next.Where) != len(w.Where) {
		t.Fatalf("%s: items are at %v, and were at %v", call, next.Where, w.Where)
	}
	for other := range w.Where {
		if other != item && next.Where[other] != w.Where[other] {
			t.Errorf("%s: the item %d is at %v, and was at %v", call, other, next.Where[other], w.Where[other])
		}
	}
	if !slices.Equal(next.At, w.At) || !slices.Equal(next.Coins, w.Coins) {
		t.Errorf("%s: players are at %v, with %v, and were at %v, with %v", call, next.At, next.Coins, w.At, w.Coins)
	}
	if text(next.Desc) != text(w.Desc) {
		t.Errorf("%s: the description is %+v, and was %+v", call, next.Desc, w.Desc)
	}
}

func TestNothingElseIsElsewhere(t *testing.T) {
	w := wide()
	for p := range w.At {
		for item := -1; item <= len(w.Where); item++ {
			for box := -1; box <= len(w.Where); box++ {
				put, _ := Put(w, p, item, box)
				checkStay(t, fmt.Sprintf("Put of %d, %d, %d", p, item, box), w, put, item)
				taken, _ := Take(w, p, item, box)
				checkStay(t, fmt.Sprintf("Take of %d, %d, %d", p, item, box), w, taken, item)
			}
		}
	}
}

func TestWhatIsInABoxGoesAlong(t *testing.T) {
	w := with(sized(2, 1), inPlayer(0), inBox(0), inBox(1), inBox(0), inRoom(1), inBox(4), inBox(5))
	checkRight(t, w)
	put, err := Put(w, 0, 0, 5)
	if err != api.OK {
		t.Fatal(err)
	}
	checkRight(t, put)
	checkClimb(t, put, inRoom(1), [][]int{{5, 4}, {0, 5, 4}, {1, 0, 5, 4}, {0, 5, 4}, {}, {4}, {5, 4}})
	taken, err := Take(put, 0, 5, 4)
	if err != api.OK {
		t.Fatal(err)
	}
	checkRight(t, taken)
	checkClimb(t, moved(taken, 4, inPlayer(0)), inPlayer(0), [][]int{{5}, {0, 5}, {1, 0, 5}, {0, 5}, {}, {}, {5}})
	if taken.Where[4] != inRoom(1) {
		t.Errorf("the box is at %v", taken.Where[4])
	}
}

// checkClimb sees to it that all items hang from a place, and that these boxes are above each.
func checkClimb(t *testing.T, w api.World, from api.Place, want [][]int) {
	t.Helper()
	for item := range w.Where {
		if above, root := climb(w, item); root != from || !slices.Equal(above, want[item]) {
			t.Errorf("%d hangs from %v, below %v, not from %v, below %v", item, root, above, from, want[item])
		}
	}
}

func TestThereAndBack(t *testing.T) {
	w := wide()
	for p := range w.At {
		for item := range w.Where {
			for box := range w.Where {
				checkThereAndBack(t, w, p, item, box)
			}
		}
	}
}

func TestThereAndBackWhereAllGetsFull(t *testing.T) {
	w := capped(with(sized(1, 0), inPlayer(0), inRoom(0), inBox(1), inRoom(0)), 1, 1)
	checkRight(t, w)
	checkTake(t, w, 0, 2, 1, errFull)
	put, err := Put(w, 0, 0, 3)
	if err != api.OK {
		t.Fatal(err)
	}
	checkTake(t, put, 0, 2, 1, api.OK) // the hands are empty by that
	checkThereAndBack(t, put, 0, 2, 1)
	checkThereAndBack(t, put, 0, 0, 3)
	checkThereAndBack(t, w, 0, 0, 3)
	checkThereAndBack(t, w, 0, 0, 2)
}

func TestOutOfOneBoxIntoAnother(t *testing.T) {
	w := capped(with(sized(2, 1, 1), inRoom(1), inPlayer(0), inBox(0)), 2, 1)
	checkRight(t, w)
	for i, step := range []struct {
		take         bool
		p, item, box int
		want         api.Errno
	}{
		{true, 0, 2, 0, api.OK}, {true, 0, 2, 0, errAway}, {false, 1, 2, 0, errAway}, {false, 0, 2, 1, api.OK}, {true, 1, 2, 1, errAway},
		{false, 0, 1, 2, errLoop}, {false, 0, 1, 0, api.OK}, {true, 1, 2, 1, api.OK}, {false, 1, 2, 0, errFull}, {false, 1, 2, 1, api.OK}, {true, 1, 1, 0, api.OK}, {false, 0, 1, 0, errAway},
	} {
		call := Put
		if step.take {
			call = Take
		}
		next, err := call(w, step.p, step.item, step.box)
		if err != step.want {
			t.Fatalf("step %d: error %d", i, err)
		}
		checkRight(t, next)
		w = next
	}
	if !slices.Equal(w.Where, []api.Place{inRoom(1), inPlayer(1), inBox(1)}) {
		t.Errorf("items are at %v", w.Where)
	}
}

// P10.4

// roomy is a list like this one, with room behind its length in which something stands.
func roomy[T any](list []T, behind T) []T {
	return append(slices.Clone(list), behind, behind, behind)[:len(list)]
}

// whole is a list with the room behind its length.
func whole[T any](list []T) []T {
	return list[:cap(list)]
}

// roomyWorld is wide with such room behind all its lists; what stands there would tell, if it were looked at.
func roomyWorld() api.World {
	w := wide()
	d := &w.Desc
	d.Exits = roomy(d.Exits, [4]int{1, 1, 1, 1})
	d.Players, d.Coins, d.Items, d.Boxes = roomy(d.Players, 1), roomy(d.Coins, 7), roomy(d.Items, 1), roomy(d.Boxes, true)
	w.At, w.Coins, w.Where = roomy(w.At, 1), roomy(w.Coins, 7), roomy(w.Where, inPlayer(0))
	return w
}

// lists are a world's lists, with the room behind their lengths, as texts.
func lists(w api.World) map[string]string {
	return map[string]string{
		"Exits":   text(whole(w.Desc.Exits)),
		"Players": text(whole(w.Desc.Players)),
		"purses":  text(whole(w.Desc.Coins)),
		"Items":   text(whole(w.Desc.Items)),
		"Boxes":   text(whole(w.Desc.Boxes)),
		"At":      text(whole(w.At)),
		"Coins":   text(whole(w.Coins)),
		"Where":   text(whole(w.Where)),
	}
}

// spoilers write all over one of a world's lists, the room behind its length included.
var spoilers = map[string]func(w api.World){
	"Exits":   func(w api.World) { fill(w.Desc.Exits, [4]int{-9, -9, -9, -9}) },
	"Players": func(w api.World) { fill(w.Desc.Players, -8) },
	"purses":  func(w api.World) { fill(w.Desc.Coins, -7) },
	"Items":   func(w api.World) { fill(w.Desc.Items, -6) },
	"Boxes":   func(w api.World) { fill(w.Desc.Boxes, !w.Desc.Boxes[0]) },
	"At":      func(w api.World) { fill(w.At, -5) },
	"Coins":   func(w api.World) { fill(w.Coins, -4) },
	"Where":   func(w api.World) { fill(w.Where, api.Place{Kind: -3, Id: -3}) },
}

func fill[T any](list []T, with T) {
	for i := range whole(list) {
		whole(list)[i] = with
	}
}

// checkLists holds a world's lists, but for one, against what they were.
func checkLists(t *testing.T, what string, w api.World, want map[string]string, but string) {
	t.Helper()
	for name, got := range lists(w) {
		if name != but && got != want[name] {
			t.Errorf("%s: %s became %s, and was %s", what, name, got, want[name])
		}
	}
}

func TestWhatIsHandedInStays(t *testing.T) {
	w := roomyWorld()
	checkRight(t, w)
	want := lists(w)
	for p := range w.At {
		for item := -1; item <= len(w.Where); item++ {
			for box := -1; box <= len(w.Where); box++ {
				Put(w, p, item, box)
				Take(w, p, item, box)
			}
			Near(w, p, item)
			checkLists(t, fmt.Sprintf("calls of %d, %d", p, item), w, want, "")
		}
	}
}

func TestWhatStandsBehindTheListsIsNotLookedAt(t *testing.T) {
	w := roomyWorld()
	w.Where = w.Where[:15] // the last item, with the player 0, is behind
	w.Desc.Items, w.Desc.Boxes = w.Desc.Items[:15], w.Desc.Boxes[:15]
	w.Desc.Player, w.Desc.Box = 3, 3 // those behind would fill the hands
	checkRight(t, w)
	checkAll(t, w, map[api.Errno]int{})
	checkTake(t, w, 0, 1, 0, api.OK)
	w.Where = roomy(w.Where, inBox(0)) // those would fill the box
	checkPut(t, w, 0, 12, 0, api.OK)
	checkPut(t, w, 0, 15, 0, errNone)
	checkTake(t, w, 0, 15, 0, errNone)
}

// changes are calls by which an item's place changes, of wide.
var changes = map[string]func(w api.World) (api.World, api.Errno){
	"Put":                func(w api.World) (api.World, api.Errno) { return Put(w, 0, 12, 3) },
	"Put of a box":       func(w api.World) (api.World, api.Errno) { return Put(w, 0, 0, 4) },
	"Take":               func(w api.World) (api.World, api.Errno) { return Take(w, 0, 2, 1) },
	"Take off the floor": func(w api.World) (api.World, api.Errno) { return Take(w, 2, 4, 3) },
}

func TestWhatIsAnsweredIsNewMemory(t *testing.T) {
	for call, change := range changes {
		for name, spoil := range spoilers {
			w := roomyWorld()
			first, err := change(w)
			second, _ := change(w)
			if err != api.OK {
				t.Fatalf("%s: error %d", call, err)
			}
			want, wantFirst, wantSecond := lists(w), lists(first), lists(second)
			spoil(first)
			if lists(first)[name] == wantFirst[name] {
				t.Errorf("%s: nothing was written into %s", call, name)
			}
			checkLists(t, call+", handed in", w, want, "")
			checkLists(t, call+", the same answer", first, wantFirst, name)
			checkLists(t, call+", another answer", second, wantSecond, "")
			spoil(w)
			checkLists(t, call+", an answer, when what was handed in was written into", second, wantSecond, "")
		}
	}
}

// Whatever is handed in, calls end, and none panics.

func TestWrongArgumentsEndAndDoNotPanic(t *testing.T) {
	numbers := []int{math.MinInt, -1 << 32, -2, -1, 0, 1, 2, 3, 4, 5, 6, 11, 15, 16, 1 << 32, math.MaxInt}
	odd := wide()
	odd.At = []int{-1, 5, math.MaxInt, math.MinInt}
	lost := wide()
	for item := range lost.Where {
		lost.Where[item] = api.Place{Kind: numbers[item], Id: numbers[len(numbers)-1-item]}
	}
	knot := with(sized(1, 0), inBox(1), inBox(0), inBox(2), inBox(math.MaxInt), inPlayer(-1), inPlayer(7), inRoom(-1), inPlayer(0), inRoom(0))
	few := wide()
	few.At = nil
	flat := wide()
	flat.Desc.Boxes = flat.Desc.Boxes[:3]
	many := wide()
	many.At, many.Where = make([]int, 40), slices.Repeat([]api.Place{inRoom(0), inPlayer(0), inBox(1), inBox(2)}, 10)
	below := capped(wide(), math.MinInt, math.MinInt)
	for _, w := range []api.World{{}, {At: []int{0}}, {At: []int{0}, Where: []api.Place{{}, {Kind: 1}}}, {Desc: wide().Desc}, wide(), odd, lost, knot, few, flat, many, below} {
		want := text(w)
		for _, p := range numbers {
			for _, item := range numbers {
				Near(w, p, item)
				for _, box := range numbers {
					Put(w, p, item, box)
					Take(w, p, item, box)
				}
			}
		}
		if got := text(w); got != want {
			t.Errorf("the world became %s, and was %s", got, want)
		}
	}
}

func TestPlayersThatThereAreNotChangeNothing(t *testing.T) {
	w := wide()
	for _, p := range []int{math.MinInt, -1, 4, 6, math.MaxInt} {
		for item := range w.Where {
			for box := range w.Where {
				checkPut(t, w, p, item, box, errAway)
				checkTake(t, w, p, item, box, errAway)
			}
		}
	}
}
