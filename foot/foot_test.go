package foot

import (
	"slices"
	"testing"

	"innkeep/api"
	"innkeep/cmd"
	"innkeep/desc"
	"innkeep/keys"
	"innkeep/ways"
)

// P16.1, Of

// modelOf is the footprint by the chapter's words: it asks of each key, one behind the other, whether it is in it.
func modelOf(w api.World, p int, c api.Cmd) []api.Key {
	here, beyond := w.At[p], -1
	if c.Kind == 1 || c.Kind == 2 {
		beyond = w.Desc.Exits[here][c.Dir]
	}
	other := -1
	if c.Kind == 2 || c.Kind == 7 || c.Kind == 8 {
		other = c.Who
	}
	var l []api.Key
	for id := range 8 {
		if id == here || id == beyond {
			l = append(l, room(id))
		}
	}
	for id := range w.At {
		if id == p || id == other {
			l = append(l, player(id))
		}
	}
	return l
}

func checkOf(t *testing.T, why string, w api.World, p int, c api.Cmd, want ...api.Key) {
	t.Helper()
	if !cmd.May(c) {
		t.Fatalf("%s: %+v may not be", why, c)
	}
	if got := Of(w, p, c); !slices.Equal(got, want) {
		t.Errorf("%s: Of %d, %+v is %v, not %v, of %+v", why, p, c, got, want, w)
	}
	if got := modelOf(w, p, c); !slices.Equal(got, want) {
		t.Errorf("%s: the model's of %d, %+v is %v, not %v", why, p, c, got, want)
	}
}

// footRow is a player's command in the house, and its footprint.
type footRow struct {
	why  string
	p    int
	c    api.Cmd
	want []api.Key
}

func checkRows(t *testing.T, rows []footRow) {
	t.Helper()
	w := house()
	checkRight(t, w)
	for _, x := range rows {
		checkOf(t, x.why, w, x.p, x.c, x.want...)
	}
}

func TestLookIsTheRoomAndThePlayer(t *testing.T) {
	w, err := desc.New(api.Desc{Exits: [][4]int{{0, 0, 0, 0}}, Players: []int{0}, Coins: []int{0}})
	if err != api.OK {
		t.Fatal(err)
	}
	checkOf(t, "the example", w, 0, api.Cmd{Kind: 9}, room(0), player(0))
	checkRows(t, []footRow{
		{"among others", 1, api.Cmd{Kind: 9}, list(room(0), player(1))},
		{"alone", 5, api.Cmd{Kind: 9}, list(room(3), player(5))},
		{"the first player", 0, api.Cmd{Kind: 9}, list(room(1), player(0))},
	})
}

func TestOwnIsTheRoomAndThePlayer(t *testing.T) {
	checkRows(t, []footRow{
		{"among others", 2, api.Cmd{Kind: 10}, list(room(0), player(2))},
		{"in the last room", 3, api.Cmd{Kind: 10}, list(room(7), player(3))},
		{"the first player", 0, api.Cmd{Kind: 10}, list(room(1), player(0))},
	})
}

func TestMoveIsTheRoomBeyondToo(t *testing.T) {
	c := func(dir int) api.Cmd { return api.Cmd{Kind: 1, Dir: dir} }
	checkRows(t, []footRow{
		{"into another room", 1, c(0), list(room(0), room(1), player(1))},
		{"into the last room", 1, c(3), list(room(0), room(7), player(1))},
		{"into a room that is less than where one is", 4, c(0), list(room(0), room(7), player(4))},
		{"into one in the middle", 3, c(2), list(room(3), room(7), player(3))},
		{"into the room where one is", 1, c(1), list(room(0), player(1))},
		{"into the last room, where one is", 3, c(1), list(room(7), player(3))},
		{"nowhere", 1, c(2), list(room(0), player(1))},
		{"nowhere, of the last room", 3, c(3), list(room(7), player(3))},
		{"west, into the room where one is", 0, c(3), list(room(1), player(0))},
	})
}

func TestPushIsTheRoomBeyondAndTheOtherOneToo(t *testing.T) {
	c := func(who, dir int) api.Cmd { return api.Cmd{Kind: 2, Who: who, Dir: dir} }
	checkRows(t, []footRow{
		{"one here, into another room", 1, c(2, 0), list(room(0), room(1), player(1), player(2))},
		{"one here who is less, into another room", 2, c(1, 3), list(room(0), room(7), player(1), player(2))},
		{"one here, into a room that is less", 3, c(4, 0), list(room(0), room(7), player(3), player(4))},
		{"one here, into the same room", 1, c(2, 1), list(room(0), player(1), player(2))},
		{"one here, nowhere", 1, c(2, 2), list(room(0), player(1), player(2))},
		{"one elsewhere, into another room", 1, c(3, 3), list(room(0), room(7), player(1), player(3))},
		{"one elsewhere, not into that one's room", 1, c(5, 0), list(room(0), room(1), player(1), player(5))},
		{"one elsewhere, into the same room", 3, c(0, 1), list(room(7), player(0), player(3))},
		{"one elsewhere, nowhere from here, though from there", 5, c(1, 0), list(room(3), player(1), player(5))},
		{"one elsewhere, nowhere from there, though from here", 3, c(5, 0), list(room(0), room(7), player(3), player(5))},
		{"one elsewhere, from here to another room than from there", 3, c(1, 2), list(room(3), room(7), player(1), player(3))},
		{"oneself, into another room", 1, c(1, 0), list(room(0), room(1), player(1))},
		{"oneself, into the same room", 1, c(1, 1), list(room(0), player(1))},
		{"oneself, nowhere", 1, c(1, 2), list(room(0), player(1))},
		{"nobody, into another room", 1, c(6, 0), list(room(0), room(1), player(1))},
		{"nobody, into the same room", 1, c(7, 1), list(room(0), player(1))},
		{"nobody, nowhere", 1, c(1<<30, 2), list(room(0), player(1))},
		{"the first player", 2, c(0, 2), list(room(0), player(0), player(2))},
		{"the last player", 2, c(5, 2), list(room(0), player(2), player(5))},
	})
}

func TestGiveIsTheOtherOneToo(t *testing.T) {
	c := func(item, who int) api.Cmd { return api.Cmd{Kind: 7, Item: item, Who: who} }
	checkRows(t, []footRow{
		{"to one here", 1, c(2, 2), list(room(0), player(1), player(2))},
		{"to one here who is less", 4, c(8, 3), list(room(7), player(3), player(4))},
		{"to one elsewhere", 1, c(2, 0), list(room(0), player(0), player(1))},
		{"to the last player", 1, c(2, 5), list(room(0), player(1), player(5))},
		{"to oneself", 1, c(2, 1), list(room(0), player(1))},
		{"to nobody", 1, c(2, 6), list(room(0), player(1))},
		{"to nobody by far", 1, c(2, 1<<30), list(room(0), player(1))},
		{"what another one has", 1, c(8, 2), list(room(0), player(1), player(2))},
		{"what lies elsewhere", 1, c(9, 2), list(room(0), player(1), player(2))},
		{"what there isn't", 1, c(12, 2), list(room(0), player(1), player(2))},
	})
}

func TestTradeIsTheOtherOneToo(t *testing.T) {
	checkRows(t, []footRow{
		{"with one here", 1, swap(2, []int{2, 11}, 3, []int{5}, 1), list(room(0), player(1), player(2))},
		{"with one here who is less", 2, swap(1, []int{5}, 0, nil, 4), list(room(0), player(1), player(2))},
		{"with one elsewhere", 1, swap(0, []int{2}, 0, []int{10}, 0), list(room(0), player(0), player(1))},
		{"with the last player", 1, swap(5, nil, 0, nil, 0), list(room(0), player(1), player(5))},
		{"with oneself", 1, swap(1, []int{2}, 1, []int{11}, 1), list(room(0), player(1))},
		{"with nobody", 1, swap(6, []int{2}, 0, nil, 0), list(room(0), player(1))},
		{"with nobody by far", 1, swap(1<<30, nil, 0, nil, 0), list(room(0), player(1))},
		{"of what others have, elsewhere", 1, swap(2, []int{8, 9}, 0, []int{10, 0}, 0), list(room(0), player(1), player(2))},
		{"of what there isn't", 1, swap(2, []int{12}, 0, []int{1 << 30}, 0), list(room(0), player(1), player(2))},
		{"with the first player, of nothing", 0, swap(0, nil, 0, nil, 0), list(room(1), player(0))},
	})
}

// TestWhatIsDoneWithItemsIsTheRoomAndThePlayer tells nothing of where items and boxes are: neither their numbers nor what they hang from are asked.
func TestWhatIsDoneWithItemsIsTheRoomAndThePlayer(t *testing.T) {
	w := house()
	items := []int{0, 1, 2, 3, 4, 5, 6, 7, 8, 9, 10, 11, 12, 1 << 30}
	for p, here := range w.At {
		for _, item := range items {
			checkOf(t, "get", w, p, api.Cmd{Kind: 3, Item: item}, room(here), player(p))
			checkOf(t, "drop", w, p, api.Cmd{Kind: 4, Item: item}, room(here), player(p))
			for _, box := range items {
				checkOf(t, "put", w, p, api.Cmd{Kind: 5, Item: item, Box: box}, room(here), player(p))
				checkOf(t, "take", w, p, api.Cmd{Kind: 6, Item: item, Box: box}, room(here), player(p))
			}
		}
	}
}

func TestFootprintsAreAsTheWorldStands(t *testing.T) {
	w, err := desc.New(api.Desc{Exits: [][4]int{{1, -1, -1, -1}, {-1, -1, 0, -1}}, Players: []int{0, 0}, Coins: []int{5, 2}, Items: []int{0, 0}, Boxes: []bool{true, false}, Room: 2, Player: 2, Box: 1})
	if err != api.OK {
		t.Fatal(err)
	}
	get, north := api.Cmd{Kind: 3, Item: 1}, api.Cmd{Kind: 1}
	checkOf(t, "ahead of the push", w, 1, get, room(0), player(1))
	checkOf(t, "ahead of the push", w, 1, north, room(0), room(1), player(1))
	next, _, err := ways.Push(w, 0, 1, api.North)
	if err != api.OK {
		t.Fatal(err)
	}
	checkOf(t, "behind the push", next, 1, get, room(1), player(1))
	checkOf(t, "behind the push", next, 1, north, room(1), player(1))
	checkOf(t, "behind the push, of the one who pushed", next, 0, get, room(0), player(0))
}

func TestAWorldOfOneRoomAndOnePlayer(t *testing.T) {
	w := sized(1, 0)
	checkRight(t, w)
	for _, c := range smallCommands() {
		checkOf(t, "no exits", w, 0, c, room(0), player(0))
	}
	w.Desc.Exits[0] = [4]int{0, 0, 0, 0}
	for _, c := range smallCommands() {
		checkOf(t, "exits that lead back", w, 0, c, room(0), player(0))
	}
}

// TestAllRoomsAndPlayers has each player go from each room to each, and meet each player, wherever that one is.
func TestAllRoomsAndPlayers(t *testing.T) {
	for rooms := 1; rooms <= 8; rooms++ {
		for here := range rooms {
			for to := -1; to < rooms; to++ {
				players := 1 + (here+to+1)%6
				w := sized(rooms, make([]int, players)...)
				for p := range players {
					w.At[p] = (here + p) % rooms
				}
				for id := range rooms {
					w.Desc.Exits[id] = [4]int{(to+id+3)%(rooms+1) - 1, to, -1, id}
				}
				checkRight(t, w)
				for p := range players {
					for _, c := range smallCommands() {
						checkOf(t, "in all worlds", w, p, c, modelOf(w, p, c)...)
					}
				}
			}
		}
	}
}

func TestFootprintsOfManyWorlds(t *testing.T) {
	seed := uint32(16)
	for range 3000 {
		w := largeWorld(&seed)
		for p := range w.At {
			c := likely(&seed, w, p)
			want := modelOf(w, p, c)
			checkOf(t, "in many worlds", w, p, c, want...)
			if rising := keys.Sort(want...); !slices.Equal(rising, want) {
				t.Fatalf("the model's keys are %v, and don't rise, each once", want)
			}
			for _, k := range Of(w, p, c) {
				if keys.Place(w.Desc, k) < 0 {
					t.Errorf("Of %d, %+v has %v, which there isn't, of %+v", p, c, k, w)
				}
			}
		}
	}
}
