package hold

import (
	"fmt"
	"math"
	"slices"
	"testing"

	"innkeep/api"
	"innkeep/desc"
	"innkeep/tree"
)

func inRoom(id int) api.Place   { return api.Place{Kind: 0, Id: id} }
func inPlayer(id int) api.Place { return api.Place{Kind: 1, Id: id} }
func inBox(id int) api.Place    { return api.Place{Kind: 2, Id: id} }

// text is all that a value has; nil and empty lists are one in it.
func text(x any) string {
	return fmt.Sprintf("%+v", x)
}

// sized is a world of so many rooms, whose players are in these rooms; there are no items yet, and nothing gets full soon.
func sized(rooms int, at ...int) api.World {
	w := api.World{Desc: api.Desc{Exits: make([][4]int, rooms), Room: 64, Player: 64, Box: 64}, At: at}
	for p, room := range at {
		w.Desc.Players = append(w.Desc.Players, (room+1)%rooms)
		w.Desc.Coins = append(w.Desc.Coins, 100+p)
		w.Coins = append(w.Coins, 7*p)
	}
	return w
}

// with is a world like w with items more, all of them boxes, at these places; they began in one room after the other.
func with(w api.World, where ...api.Place) api.World {
	w = desc.Copy(w)
	for _, at := range where {
		w.Desc.Items = append(w.Desc.Items, len(w.Where)%len(w.Desc.Exits))
		w.Desc.Boxes = append(w.Desc.Boxes, true)
		w.Where = append(w.Where, at)
	}
	return w
}

// wide is a right world of four rooms, four players and twelve items. The players 0 and 2 are in the room 1, together, and no player is in the room of its own number, but for the last one.
func wide() api.World {
	return with(sized(4, 1, 0, 1, 3),
		inRoom(1),   // 0: the first item, with others in it
		inBox(0),    // 1
		inBox(1),    // 2
		inRoom(0),   // 3
		inPlayer(0), // 4: in the hands, with others in it
		inBox(4),    // 5
		inBox(5),    // 6
		inPlayer(2), // 7
		inPlayer(1), // 8
		inRoom(3),   // 9
		inPlayer(3), // 10
		inRoom(1),   // 11: the last item
	)
}

// moved is a world like w, in new memory, in which one item is at this place.
func moved(w api.World, item int, at api.Place) api.World {
	next := desc.Copy(w)
	next.Where[item] = at
	return next
}

// capped is a world like w, in new memory, in which rooms, players and boxes may hold so much.
func capped(w api.World, room, player, box int) api.World {
	next := desc.Copy(w)
	next.Desc.Room, next.Desc.Player, next.Desc.Box = room, player, box
	return next
}

// checkRight sees to it that a test speaks of a right world.
func checkRight(t *testing.T, w api.World) {
	t.Helper()
	if !desc.Right(w) {
		t.Fatalf("%+v isn't right", w)
	}
}

// check holds an answer against the world in which the item is at this place, or against w and an error.
func check(t *testing.T, call string, w api.World, p, item int, at api.Place, wantErr api.Errno, got api.World, err api.Errno) {
	t.Helper()
	want := w
	if wantErr == api.OK {
		want = moved(w, item, at)
	}
	if err != wantErr || !desc.Same(got, want) {
		t.Errorf("%s of %d, %d answers %v, %d, not %v, %d, of %+v", call, p, item, got.Where, err, want.Where, wantErr, w)
	}
}

func checkGet(t *testing.T, w api.World, p, item int, wantErr api.Errno) {
	t.Helper()
	got, err := Get(w, p, item)
	check(t, "Get", w, p, item, inPlayer(p), wantErr, got, err)
}

func checkDrop(t *testing.T, w api.World, p, item int, wantErr api.Errno) {
	t.Helper()
	got, err := Drop(w, p, item)
	check(t, "Drop", w, p, item, inRoom(w.At[p]), wantErr, got, err)
}

// checkEach holds a call of each item by one player against the errors that come of it.
func checkEach(t *testing.T, w api.World, p int, checkCall func(*testing.T, api.World, int, int, api.Errno), want []api.Errno) {
	t.Helper()
	checkRight(t, w)
	if len(want) != len(w.Where) {
		t.Fatalf("%d errors of %d items", len(want), len(w.Where))
	}
	for item, err := range want {
		checkCall(t, w, p, item, err)
	}
}

// farItems are no numbers of items, where there are so many.
func farItems(items int) []int {
	return []int{math.MinInt, -1 << 32, -items - 1, -2, -1, items, items + 1, api.MaxItems, 1 << 32, math.MaxInt}
}

// P9.1

const (
	none = api.ErrNone
	away = api.ErrAway
	full = api.ErrFull
)

func TestGetOfItemsAllOver(t *testing.T) {
	w := wide()
	checkEach(t, w, 0, checkGet, []api.Errno{0, away, away, away, away, away, away, away, away, away, away, 0})
	checkEach(t, w, 1, checkGet, []api.Errno{away, away, away, 0, away, away, away, away, away, away, away, away})
	checkEach(t, w, 2, checkGet, []api.Errno{0, away, away, away, away, away, away, away, away, away, away, 0})
	checkEach(t, w, 3, checkGet, []api.Errno{away, away, away, away, away, away, away, away, away, 0, away, away})
}

func TestGet(t *testing.T) {
	w := wide()
	for _, x := range []struct {
		why     string
		p, item int
		want    api.Errno
	}{
		{"the first item, on the floor here", 0, 0, api.OK},
		{"the last item, on the floor here", 0, 11, api.OK},
		{"by another player who is here", 2, 11, api.OK},
		{"on the floor of another room", 0, 3, away},
		{"on the floor of the room of the player's number", 1, 0, away},
		{"in a box that lies here", 0, 1, away},
		{"in a box in a box that lies here", 0, 2, away},
		{"what one has", 0, 4, away},
		{"in a box that one has", 0, 5, away},
		{"in a box in a box that one has", 0, 6, away},
		{"what another one here has", 0, 7, away},
		{"what one in another room has", 0, 8, away},
		{"just past the last item", 0, 12, none},
		{"below the first item", 0, -1, none},
	} {
		got, err := Get(w, x.p, x.item)
		if err != x.want {
			t.Errorf("%s: Get of %d, %d answers the error %d", x.why, x.p, x.item, err)
		}
		check(t, x.why, w, x.p, x.item, inPlayer(x.p), x.want, got, err)
	}
}

func TestGetOfEachItemByEachPlayerInEachRoom(t *testing.T) {
	for rooms := 1; rooms <= 8; rooms++ {
		for players := 1; players <= 6; players++ {
			for p := range players {
				at := make([]int, players)
				at[p] = rooms - 1
				w := with(sized(rooms, at...), slices.Repeat([]api.Place{inRoom(0), inRoom(rooms - 1)}, 8)...)
				checkRight(t, w)
				for item := range 16 {
					wantErr := away
					if rooms == 1 || item%2 == 1 {
						wantErr = api.OK
					}
					checkGet(t, w, p, item, wantErr)
				}
			}
		}
	}
}

func TestGetGoesByWhereThePlayerIs(t *testing.T) {
	w := with(sized(2, 1), inRoom(0), inRoom(1))
	checkRight(t, w)
	if w.Desc.Players[0] != 0 {
		t.Fatal("the player began where it is")
	}
	checkGet(t, w, 0, 0, away)
	checkGet(t, w, 0, 1, api.OK)
}

func TestGetGoesByWhereTheItemIs(t *testing.T) {
	w := with(sized(2, 0), inRoom(1), inRoom(0))
	w.Desc.Items = []int{0, 1} // where they began
	checkRight(t, w)
	checkGet(t, w, 0, 0, away)
	checkGet(t, w, 0, 1, api.OK)
}

func TestGetOfWhatIsNoBox(t *testing.T) {
	w := wide()
	for item := range w.Desc.Boxes {
		w.Desc.Boxes[item] = slices.Contains(w.Where, inBox(item))
	}
	checkEach(t, w, 0, checkGet, []api.Errno{0, away, away, away, away, away, away, away, away, away, away, 0})
}

func TestGetOfNoItem(t *testing.T) {
	for items := range 17 {
		w := with(sized(2, 1, 0), slices.Repeat([]api.Place{inRoom(1)}, items)...)
		for _, item := range farItems(items) {
			if item >= 0 && item < items {
				continue
			}
			for p := range 2 {
				checkRight(t, w)
				checkGet(t, w, p, item, none)
				checkGet(t, capped(w, 64, 0, 64), p, item, none) // full, too
			}
		}
	}
}

func TestGetOfPlayersWhoGetFull(t *testing.T) {
	for most := range 17 {
		w := capped(with(sized(1, 0, 0), slices.Repeat([]api.Place{inRoom(0)}, 16)...), 16, most, 0)
		checkRight(t, w)
		for item := range 16 { // up to the last that it may hold, and on
			wantErr := api.OK
			if item >= most {
				wantErr = full
			}
			checkGet(t, w, 1, item, wantErr)
			w, _ = Get(w, 1, item)
			checkRight(t, w)
		}
	}
}

func TestGetOfPlayersWhoMayHoldNothing(t *testing.T) {
	w := capped(with(sized(2, 0, 1), inRoom(0), inRoom(1), inBox(0)), 64, 0, 64)
	checkRight(t, w)
	checkGet(t, w, 0, 0, full)
	checkGet(t, w, 0, 1, away)
	checkGet(t, w, 0, 2, away)
	checkGet(t, w, 1, 0, away)
	checkGet(t, w, 1, 1, full)
	checkGet(t, w, 1, 2, away)
	checkGet(t, w, 1, 3, none)
}

func TestGetAsksOnlyHowMuchThisPlayerHasDirectly(t *testing.T) {
	w := capped(with(sized(1, 0, 0), inRoom(0), inPlayer(1), inPlayer(1), inBox(1), inBox(1)), 5, 2, 2)
	checkRight(t, w)
	checkGet(t, w, 0, 0, api.OK) // another one is full
	checkGet(t, w, 1, 0, full)
	w = capped(w, 5, 3, 2)
	checkRight(t, w)
	checkGet(t, w, 1, 0, api.OK) // what is in its boxes isn't counted
	w = capped(with(sized(1, 0), inRoom(0), inRoom(0), inBox(0), inBox(0)), 4, 1, 2)
	checkRight(t, w)
	checkGet(t, w, 0, 0, api.OK) // nor is what is in the item itself
	checkGet(t, w, 0, 1, api.OK)
}

func TestGetAsksNothingOfRoomsAndBoxes(t *testing.T) {
	w := with(sized(2, 0, 1), inRoom(0), inRoom(0), inBox(0), inRoom(1))
	w.Desc.Items = []int{0, 1, 0, 1}
	w = capped(w, 2, 1, 1) // the room 0 and the box are full
	checkRight(t, w)
	checkGet(t, w, 0, 0, api.OK)
	checkGet(t, w, 0, 1, api.OK)
	checkGet(t, w, 1, 3, api.OK)
}

func TestTheFirstOfSeveralErrorsOfGet(t *testing.T) {
	w := capped(with(sized(2, 0, 0), inPlayer(0), inRoom(1), inBox(0), inPlayer(1), inRoom(0), inBox(4)), 64, 1, 64)
	checkRight(t, w)
	checkGet(t, w, 0, -1, none) // no such item, and the player may hold no more
	checkGet(t, w, 0, 6, none)
	checkGet(t, w, 0, 0, away) // it has it, and may hold no more
	checkGet(t, w, 0, 1, away) // in another room, and it may hold no more
	checkGet(t, w, 0, 2, away) // in the box that it has
	checkGet(t, w, 0, 3, away) // with another player
	checkGet(t, w, 0, 5, away) // in a box on the floor
	checkGet(t, w, 0, 4, full) // this alone
}

// P9.2: Drop

func TestDropOfItemsAllOver(t *testing.T) {
	w := wide()
	checkEach(t, w, 0, checkDrop, []api.Errno{away, away, away, away, 0, away, away, away, away, away, away, away})
	checkEach(t, w, 1, checkDrop, []api.Errno{away, away, away, away, away, away, away, away, 0, away, away, away})
	checkEach(t, w, 2, checkDrop, []api.Errno{away, away, away, away, away, away, away, 0, away, away, away, away})
	checkEach(t, w, 3, checkDrop, []api.Errno{away, away, away, away, away, away, away, away, away, away, 0, away})
}

func TestDrop(t *testing.T) {
	w := wide()
	w.Where[0], w.Where[11] = inPlayer(0), inPlayer(0)
	w.Where[4] = inRoom(1)
	checkRight(t, w)
	for _, x := range []struct {
		why     string
		p, item int
		want    api.Errno
	}{
		{"the first item, in the hands", 0, 0, api.OK},
		{"the last item, in the hands", 0, 11, api.OK},
		{"what one has in the room of one's own number", 3, 10, api.OK},
		{"what another one here has", 2, 0, away},
		{"what another one here has, the other way round", 0, 7, away},
		{"what one in another room has", 0, 8, away},
		{"in a box that one has", 0, 1, away},
		{"in a box in a box that one has", 0, 2, away},
		{"on the floor here", 0, 4, away},
		{"on the floor of another room", 0, 3, away},
		{"in a box that lies here", 0, 5, away},
		{"in a box in a box that lies here", 0, 6, away},
		{"just past the last item", 0, 12, none},
		{"below the first item", 0, -1, none},
	} {
		got, err := Drop(w, x.p, x.item)
		if err != x.want {
			t.Errorf("%s: Drop of %d, %d answers the error %d", x.why, x.p, x.item, err)
		}
		check(t, x.why, w, x.p, x.item, inRoom(w.At[x.p]), x.want, got, err)
	}
}

func TestDropOfEachItemByEachPlayerInEachRoom(t *testing.T) {
	for rooms := 1; rooms <= 8; rooms++ {
		for players := 1; players <= 6; players++ {
			for p := range players {
				at := make([]int, players)
				at[p] = rooms - 1
				w := with(sized(rooms, at...), slices.Repeat([]api.Place{inPlayer(0), inPlayer(p)}, 8)...)
				checkRight(t, w)
				for item := range 16 {
					wantErr := away
					if p == 0 || item%2 == 1 {
						wantErr = api.OK
					}
					checkDrop(t, w, p, item, wantErr)
				}
			}
		}
	}
}

func TestDropGoesByWhereThePlayerIs(t *testing.T) {
	w := capped(with(sized(2, 1), inRoom(0), inPlayer(0)), 1, 1, 0)
	checkRight(t, w)
	if w.Desc.Players[0] != 0 {
		t.Fatal("the player began where it is")
	}
	checkDrop(t, w, 0, 1, api.OK) // only the room where it began is full
	w.Where[0] = inRoom(1)
	checkDrop(t, w, 0, 1, full)
}

func TestDropOfNoItem(t *testing.T) {
	for items := range 17 {
		w := with(sized(2, 1, 0), slices.Repeat([]api.Place{inPlayer(0)}, items)...)
		for _, item := range farItems(items) {
			if item >= 0 && item < items {
				continue
			}
			for p := range 2 {
				checkRight(t, w)
				checkDrop(t, w, p, item, none)
				checkDrop(t, capped(w, 0, 64, 64), p, item, none) // full, too
			}
		}
	}
}

func TestDropInRoomsThatGetFull(t *testing.T) {
	for most := 2; most <= 17; most++ { // the items began in eight rooms
		w := capped(with(sized(8, 5), slices.Repeat([]api.Place{inPlayer(0)}, 16)...), most, 64, 0)
		checkRight(t, w)
		for item := range 16 { // up to the last that it may hold, and on
			wantErr := api.OK
			if item >= most {
				wantErr = full
			}
			checkDrop(t, w, 0, item, wantErr)
			w, _ = Drop(w, 0, item)
			checkRight(t, w)
		}
	}
}

func TestDropAsksOnlyHowMuchThisRoomHasDirectly(t *testing.T) {
	w := with(sized(3, 0, 1, 2), inPlayer(0), inPlayer(1), inRoom(1), inRoom(1), inBox(2), inBox(2))
	w = capped(w, 2, 1, 2)
	checkRight(t, w)
	checkDrop(t, w, 0, 0, api.OK) // another room is full
	checkDrop(t, w, 1, 1, full)
	w = capped(w, 3, 1, 2)
	checkRight(t, w)
	checkDrop(t, w, 1, 1, api.OK) // what is in its boxes isn't counted
	w = capped(with(sized(2, 0), inPlayer(0), inBox(0), inBox(0), inRoom(0)), 2, 1, 2)
	checkRight(t, w)
	checkDrop(t, w, 0, 0, api.OK) // nor is what is in the item itself
	w = capped(with(sized(2, 0, 0), inPlayer(0), inPlayer(1), inPlayer(1)), 2, 2, 0)
	checkRight(t, w)
	checkDrop(t, w, 0, 0, api.OK) // nor is what players have who are there
}

func TestDropAsksNothingOfPlayersAndBoxes(t *testing.T) {
	w := capped(with(sized(1, 0, 0), inPlayer(0), inPlayer(1), inBox(0)), 64, 1, 1) // all are full
	checkRight(t, w)
	checkDrop(t, w, 0, 0, api.OK)
	checkDrop(t, w, 1, 1, api.OK)
}

func TestTheFirstOfSeveralErrorsOfDrop(t *testing.T) {
	w := capped(with(sized(3, 0, 0), inRoom(0), inRoom(0), inBox(0), inPlayer(1), inPlayer(0), inBox(4)), 2, 64, 64)
	checkRight(t, w)
	checkDrop(t, w, 0, -1, none) // no such item, and the room may hold no more
	checkDrop(t, w, 0, 6, none)
	checkDrop(t, w, 0, 0, away) // on the floor, and that may hold no more
	checkDrop(t, w, 0, 2, away) // in a box on the floor
	checkDrop(t, w, 0, 3, away) // with another player
	checkDrop(t, w, 0, 5, away) // in the box that it has
	checkDrop(t, w, 0, 4, full) // this alone
	checkDrop(t, w, 1, 3, full)
}

// P9.2: To

// places are all places of a world whose items are boxes.
func places(w api.World) []api.Place {
	var list []api.Place
	for id := range w.Desc.Exits {
		list = append(list, inRoom(id))
	}
	for id := range w.Desc.Players {
		list = append(list, inPlayer(id))
	}
	for id := range w.Where {
		list = append(list, inBox(id))
	}
	return list
}

func TestTo(t *testing.T) {
	w := wide()
	for item := range w.Where {
		for _, at := range places(w) {
			if got := To(w, item, at); !desc.Same(got, moved(w, item, at)) {
				t.Errorf("To of %d, %v answers %+v, of %+v", item, at, got, w)
			}
		}
	}
}

func TestToARoomAPlayerAndABox(t *testing.T) {
	w := with(sized(2, 0, 1), inRoom(0), inRoom(1), inBox(0))
	for _, x := range []struct {
		item int
		at   api.Place
		want []api.Place
	}{
		{0, inRoom(1), []api.Place{inRoom(1), inRoom(1), inBox(0)}},
		{0, inPlayer(1), []api.Place{inPlayer(1), inRoom(1), inBox(0)}},
		{0, inBox(1), []api.Place{inBox(1), inRoom(1), inBox(0)}},
		{1, inRoom(0), []api.Place{inRoom(0), inRoom(0), inBox(0)}},
		{1, inPlayer(0), []api.Place{inRoom(0), inPlayer(0), inBox(0)}},
		{1, inBox(2), []api.Place{inRoom(0), inBox(2), inBox(0)}},
		{2, inRoom(0), []api.Place{inRoom(0), inRoom(1), inRoom(0)}},
		{2, inPlayer(0), []api.Place{inRoom(0), inRoom(1), inPlayer(0)}},
		{2, inBox(1), []api.Place{inRoom(0), inRoom(1), inBox(1)}},
	} {
		got := To(w, x.item, x.at)
		if !slices.Equal(got.Where, x.want) {
			t.Errorf("To of %d, %v: items are at %v", x.item, x.at, got.Where)
		}
		checkStay(t, fmt.Sprintf("To of %d, %v", x.item, x.at), w, got, x.item)
		checkRight(t, got)
	}
}

func TestToWhereAnItemIs(t *testing.T) {
	w := wide()
	for item, at := range w.Where {
		if got := To(w, item, at); !desc.Same(got, w) {
			t.Errorf("To of %d, %v answers %+v, of %+v", item, at, got, w)
		}
	}
}

func TestToAsksNothing(t *testing.T) {
	w := capped(with(sized(2, 0), inRoom(0), inRoom(1), inBox(0)), 1, 0, 1)
	w.Desc.Items[2], w.Desc.Room = 1, 2
	w.Desc.Boxes[1] = false
	checkRight(t, w)
	for _, at := range []api.Place{inRoom(0), inRoom(1), inPlayer(0), inBox(0), inBox(1), inBox(2)} { // what is full, what is no box, and the item itself
		for item := range w.Where {
			if got := To(w, item, at); !desc.Same(got, moved(w, item, at)) {
				t.Errorf("To of %d, %v answers %+v, of %+v", item, at, got, w)
			}
		}
	}
}

// P9.1 to P9.3, of all small worlds

// has counts the items that are directly at a place.
func has(w api.World, kind, id int) int {
	many := 0
	for _, at := range w.Where {
		if at.Kind == kind && at.Id == id {
			many++
		}
	}
	return many
}

// wantGet is the error that comes of Get.
func wantGet(w api.World, p, item int) api.Errno {
	if item < 0 || item >= len(w.Where) {
		return none
	}
	if at := w.Where[item]; at.Kind != 0 || at.Id != w.At[p] {
		return away
	}
	if has(w, 1, p) == w.Desc.Player {
		return full
	}
	return api.OK
}

// wantDrop is the error that comes of Drop.
func wantDrop(w api.World, p, item int) api.Errno {
	if item < 0 || item >= len(w.Where) {
		return none
	}
	if at := w.Where[item]; at.Kind != 1 || at.Id != p {
		return away
	}
	if has(w, 0, w.At[p]) == w.Desc.Room {
		return full
	}
	return api.OK
}

// checkAll holds all calls of a world against what the chapter says.
func checkAll(t *testing.T, w api.World) {
	t.Helper()
	for p := range w.At {
		for item := -1; item <= len(w.Where); item++ {
			checkGet(t, w, p, item, wantGet(w, p, item))
			checkDrop(t, w, p, item, wantDrop(w, p, item))
			checkThereAndBack(t, w, p, item)
		}
	}
}

// checkThereAndBack does what may be done, and its contrary at once, which may always be done.
func checkThereAndBack(t *testing.T, w api.World, p, item int) {
	t.Helper()
	if got, err := Get(w, p, item); err == api.OK {
		checkBack(t, "Drop behind Get", w, got, p, item, Drop)
	}
	if dropped, err := Drop(w, p, item); err == api.OK {
		checkBack(t, "Get behind Drop", w, dropped, p, item, Get)
	}
}

func checkBack(t *testing.T, calls string, w, next api.World, p, item int, back func(api.World, int, int) (api.World, api.Errno)) {
	t.Helper()
	if !desc.Right(next) {
		t.Errorf("%s of %d, %d: between them %+v isn't right", calls, p, item, next)
	}
	if again, err := back(next, p, item); err != api.OK || !desc.Same(again, w) {
		t.Errorf("%s of %d, %d answers %+v, %d, of %+v", calls, p, item, again, err, w)
	}
}

// allWorlds calls check with each right world like w in which the items from this one on are at one of these places, and tells how many they are.
func allWorlds(w api.World, item int, places []api.Place, check func(api.World)) int {
	if item < len(w.Where) {
		many := 0
		for _, at := range places {
			w.Where[item] = at
			many += allWorlds(w, item+1, places, check)
		}
		return many
	}
	if !desc.Right(w) {
		return 0
	}
	check(w)
	return 1
}

func TestAllSmallWorlds(t *testing.T) {
	for at := range 8 { // three players in two rooms
		w := with(sized(2, at%2, at/2%2, at/4), inRoom(0), inRoom(0), inRoom(0))
		for room := 2; room <= 3; room++ {
			for player := range 4 {
				w := capped(w, room, player, 1+at%2)
				if many := allWorlds(w, 0, places(w), func(w api.World) { checkAll(t, w) }); many < 10 {
					t.Fatalf("only %d worlds", many)
				}
			}
		}
	}
}

func TestAllWorldsOfFourItems(t *testing.T) {
	w := capped(with(sized(2, 0, 1), inRoom(0), inRoom(0), inRoom(0), inRoom(0)), 2, 2, 2)
	if many := allWorlds(w, 0, places(w), func(w api.World) { checkAll(t, w) }); many < 100 {
		t.Fatalf("only %d worlds", many)
	}
}

func TestWorldsAsLargeAsMayBe(t *testing.T) {
	for seed := range 64 {
		at := make([]int, 6)
		for p := range at {
			at[p] = (seed + p*p*seed/3) % 8
		}
		w := sized(8, at...)
		for item := range 16 {
			w = with(w, []api.Place{inRoom(item * seed % 8), inPlayer((item + seed) % 6), inBox(item / 4 * 4), inRoom(seed % 8)}[item%4])
		}
		checkRight(t, w)
		checkAll(t, w)
	}
}

// P9.3

// checkStay sees to it that behind a call only this item may be elsewhere, and that all players, coins, and the description are as they were.
func checkStay(t *testing.T, call string, w, next api.World, item int) {
	t.Helper()
	if len(next.Where) != len(w.Where) {
		t.Fatalf("%s: items are at %v, and were at %v", call, next.Where, w.Where)
	}
	for other := range w.Where {
		if other != item && next.Where[other] != w.Where[other] {
			t.Errorf("%s: the item %d is at %v, and was at %v", call, other, next.Where[other], w.Where[other])
		}
	}
	if !slices.Equal(next.At, w.At) || !slices.Equal(next.Coins, w.Coins) {
		t.Errorf("%s: players are at %v, with %v, and were at %v, with %v", call, next.At, next.Coins, w.At, w.Coins)
	}
	if text(next.Desc) != text(w.Desc) {
		t.Errorf("%s: the description is %+v, and was %+v", call, next.Desc, w.Desc)
	}
}

func TestNothingElseIsElsewhere(t *testing.T) {
	w := wide()
	for p := range w.At {
		for item := -1; item <= len(w.Where); item++ {
			got, _ := Get(w, p, item)
			checkStay(t, fmt.Sprintf("Get of %d, %d", p, item), w, got, item)
			checkRight(t, got)
			dropped, _ := Drop(w, p, item)
			checkStay(t, fmt.Sprintf("Drop of %d, %d", p, item), w, dropped, item)
			checkRight(t, dropped)
		}
	}
}

// checkHangs sees to it that these items hang from a place, and lie within one another as they did.
func checkHangs(t *testing.T, w, next api.World, from api.Place, items ...int) {
	t.Helper()
	for _, item := range items {
		if root := tree.Root(next, item); root != from {
			t.Errorf("%d hangs from %v, not %v", item, root, from)
		}
		if got, want := tree.Depth(next, item), tree.Depth(w, item); got != want {
			t.Errorf("%d has the depth %d, and had %d", item, got, want)
		}
		for box := range w.Where {
			if tree.Within(next, item, box) != tree.Within(w, item, box) {
				t.Errorf("%d within %d is no more as it was", item, box)
			}
		}
	}
}

func TestWhatIsInABoxGoesAlong(t *testing.T) {
	w := with(sized(3, 1, 2), inRoom(1), inBox(0), inBox(1), inBox(2), inBox(3), inBox(0), inRoom(1)) // as deep as may be
	checkRight(t, w)
	got, err := Get(w, 0, 0)
	if err != api.OK {
		t.Fatal(err)
	}
	checkRight(t, got)
	checkHangs(t, w, got, inPlayer(0), 0, 1, 2, 3, 4, 5)
	checkHangs(t, w, got, inRoom(1), 6)
	got.At[0] = 2 // and to where the player goes
	dropped, err := Drop(got, 0, 0)
	if err != api.OK {
		t.Fatal(err)
	}
	checkRight(t, dropped)
	checkHangs(t, w, dropped, inRoom(2), 0, 1, 2, 3, 4, 5)
	checkHangs(t, w, dropped, inRoom(1), 6)
}

func TestThereAndBack(t *testing.T) {
	w := wide()
	for p := range w.At {
		for item := range w.Where {
			checkThereAndBack(t, w, p, item)
		}
	}
}

func TestThereAndBackWhereAllGetsFull(t *testing.T) {
	w := capped(with(sized(2, 0, 0), inRoom(0), inBox(0), inPlayer(1), inRoom(0)), 2, 1, 1)
	checkRight(t, w)
	got, err := Get(w, 0, 0)
	if err != api.OK {
		t.Fatal(err)
	}
	checkGet(t, got, 0, 3, full) // the hands are full by that
	checkBack(t, "Drop behind Get", w, got, 0, 0, Drop)
	w = moved(w, 0, inPlayer(0))
	checkRight(t, w)
	dropped, err := Drop(w, 0, 0)
	if err != api.OK {
		t.Fatal(err)
	}
	checkDrop(t, dropped, 1, 2, full) // the room is full by that
	checkBack(t, "Get behind Drop", w, dropped, 0, 0, Get)
}

func TestFromHandToHandOverTheFloor(t *testing.T) {
	w := capped(with(sized(2, 1, 1), inRoom(1)), 1, 1, 0)
	checkRight(t, w)
	for _, step := range []struct {
		drop bool
		p    int
		want api.Errno
	}{{false, 0, 0}, {false, 1, away}, {true, 1, away}, {true, 0, 0}, {true, 0, away}, {false, 1, 0}, {false, 0, away}, {true, 0, away}, {true, 1, 0}} {
		if step.drop {
			checkDrop(t, w, step.p, 0, step.want)
			w, _ = Drop(w, step.p, 0)
		} else {
			checkGet(t, w, step.p, 0, step.want)
			w, _ = Get(w, step.p, 0)
		}
	}
	if w.Where[0] != inRoom(1) {
		t.Errorf("the item is at %v", w.Where[0])
	}
}

// P9.4

// roomy is a list like this one, with room behind its length in which something stands.
func roomy[T any](list []T, behind T) []T {
	return append(slices.Clone(list), behind, behind, behind)[:len(list)]
}

// whole is a list with the room behind its length.
func whole[T any](list []T) []T {
	return list[:cap(list)]
}

// roomyWorld is wide with such room behind all its lists; what stands there would tell, if it were looked at.
func roomyWorld() api.World {
	w := wide()
	d := &w.Desc
	d.Exits = roomy(d.Exits, [4]int{1, 1, 1, 1})
	d.Players, d.Coins, d.Items, d.Boxes = roomy(d.Players, 1), roomy(d.Coins, 7), roomy(d.Items, 1), roomy(d.Boxes, true)
	w.At, w.Coins, w.Where = roomy(w.At, 1), roomy(w.Coins, 7), roomy(w.Where, inRoom(1))
	return w
}

// lists are a world's lists, with the room behind their lengths, as texts.
func lists(w api.World) map[string]string {
	return map[string]string{
		"Exits":   text(whole(w.Desc.Exits)),
		"Players": text(whole(w.Desc.Players)),
		"purses":  text(whole(w.Desc.Coins)),
		"Items":   text(whole(w.Desc.Items)),
		"Boxes":   text(whole(w.Desc.Boxes)),
		"At":      text(whole(w.At)),
		"Coins":   text(whole(w.Coins)),
		"Where":   text(whole(w.Where)),
	}
}

// spoilers write all over one of a world's lists, the room behind its length included.
var spoilers = map[string]func(w api.World){
	"Exits":   func(w api.World) { fill(w.Desc.Exits, [4]int{-9, -9, -9, -9}) },
	"Players": func(w api.World) { fill(w.Desc.Players, -8) },
	"purses":  func(w api.World) { fill(w.Desc.Coins, -7) },
	"Items":   func(w api.World) { fill(w.Desc.Items, -6) },
	"Boxes":   func(w api.World) { fill(w.Desc.Boxes, !w.Desc.Boxes[0]) },
	"At":      func(w api.World) { fill(w.At, -5) },
	"Coins":   func(w api.World) { fill(w.Coins, -4) },
	"Where":   func(w api.World) { fill(w.Where, api.Place{Kind: -3, Id: -3}) },
}

func fill[T any](list []T, with T) {
	for i := range whole(list) {
		whole(list)[i] = with
	}
}

// checkLists holds a world's lists, but for one, against what they were.
func checkLists(t *testing.T, what string, w api.World, want map[string]string, but string) {
	t.Helper()
	for name, got := range lists(w) {
		if name != but && got != want[name] {
			t.Errorf("%s: %s became %s, and was %s", what, name, got, want[name])
		}
	}
}

// changes are calls by which an item's place changes, of wide.
var changes = map[string]func(w api.World) (api.World, api.Errno){
	"Get":            func(w api.World) (api.World, api.Errno) { return Get(w, 0, 11) },
	"Get of a box":   func(w api.World) (api.World, api.Errno) { return Get(w, 2, 0) },
	"Drop":           func(w api.World) (api.World, api.Errno) { return Drop(w, 2, 7) },
	"Drop of a box":  func(w api.World) (api.World, api.Errno) { return Drop(w, 0, 4) },
	"To into a room": func(w api.World) (api.World, api.Errno) { return To(w, 4, inRoom(3)), api.OK },
	"To a player":    func(w api.World) (api.World, api.Errno) { return To(w, 4, inPlayer(3)), api.OK },
	"To into a box":  func(w api.World) (api.World, api.Errno) { return To(w, 4, inBox(3)), api.OK },
}

func TestWhatIsHandedInStays(t *testing.T) {
	w := roomyWorld()
	want := lists(w)
	for p := range w.At {
		for item := -1; item <= len(w.Where); item++ {
			Get(w, p, item)
			Drop(w, p, item)
			checkLists(t, fmt.Sprintf("calls of %d, %d", p, item), w, want, "")
		}
	}
	for item := range w.Where {
		for _, at := range places(w) {
			To(w, item, at)
		}
		checkLists(t, fmt.Sprintf("To of %d", item), w, want, "")
	}
}

func TestWhatStandsBehindTheListsIsNotLookedAt(t *testing.T) {
	w := roomyWorld()
	checkRight(t, w)
	checkAll(t, w)
	w = capped(w, 64, 2, 64)
	w.At, w.Where = roomy(w.At, 1), roomy(w.Where, inPlayer(0)) // those behind would fill the hands
	checkRight(t, w)
	checkGet(t, w, 0, 0, api.OK)
	checkGet(t, w, 0, 12, none)
	checkDrop(t, w, 0, 12, none)
}

func TestWhatIsAnsweredIsNewMemory(t *testing.T) {
	for call, change := range changes {
		for name, spoil := range spoilers {
			w := roomyWorld()
			first, err := change(w)
			second, _ := change(w)
			if err != api.OK {
				t.Fatalf("%s: error %d", call, err)
			}
			want, wantFirst, wantSecond := lists(w), lists(first), lists(second)
			spoil(first)
			if lists(first)[name] == wantFirst[name] {
				t.Errorf("%s: nothing was written into %s", call, name)
			}
			checkLists(t, call+", handed in", w, want, "")
			checkLists(t, call+", the same answer", first, wantFirst, name)
			checkLists(t, call+", another answer", second, wantSecond, "")
			spoil(w)
			checkLists(t, call+", an answer, when what was handed in was written into", second, wantSecond, "")
		}
	}
}

// Whatever is handed in, calls end, and none panics.

func TestWrongArgumentsEndAndDoNotPanic(t *testing.T) {
	numbers := []int{math.MinInt, -1 << 32, -2, -1, 0, 1, 2, 3, 4, 5, 6, 11, 12, 16, 1 << 32, math.MaxInt}
	odd := wide()
	odd.At = []int{-1, 5, math.MaxInt, math.MinInt}
	lost := wide()
	for item := range lost.Where {
		lost.Where[item] = api.Place{Kind: numbers[item], Id: numbers[len(numbers)-1-item]}
	}
	knot := with(sized(1, 0), inBox(1), inBox(0), inBox(2), inBox(math.MaxInt), inPlayer(-1), inPlayer(7), inRoom(-1))
	few := wide()
	few.At = nil
	many := wide()
	many.At, many.Where = make([]int, 100), make([]api.Place, 100)
	below := capped(wide(), -1, math.MinInt, math.MaxInt)
	for _, w := range []api.World{{}, {At: []int{0}}, {Where: []api.Place{{}}}, {Desc: wide().Desc}, wide(), odd, lost, knot, few, many, below} {
		want := text(w)
		for _, p := range numbers {
			for _, item := range numbers {
				Get(w, p, item)
				Drop(w, p, item)
				To(w, item, api.Place{Kind: p, Id: item})
			}
		}
		if got := text(w); got != want {
			t.Errorf("the world became %s, and was %s", got, want)
		}
	}
}

func TestPlayersAndItemsThatThereAreNotChangeNothing(t *testing.T) {
	w := wide()
	for _, p := range []int{math.MinInt, -1, 4, 6, math.MaxInt} {
		for item := range w.Where {
			if got, err := Get(w, p, item); err == api.OK || !desc.Same(got, w) {
				t.Errorf("Get of %d, %d answers %+v, %d", p, item, got, err)
			}
			if got, err := Drop(w, p, item); err == api.OK || !desc.Same(got, w) {
				t.Errorf("Drop of %d, %d answers %+v, %d", p, item, got, err)
			}
		}
	}
	for _, item := range farItems(len(w.Where)) {
		if got := To(w, item, inRoom(0)); !desc.Same(got, w) {
			t.Errorf("To of %d answers %+v", item, got)
		}
	}
}
