package desc

import (
	"fmt"
	"math"
	"slices"
	"testing"

	"innkeep/api"
)

const top = api.MaxCoins

func inRoom(id int) api.Place   { return api.Place{Kind: 0, Id: id} }
func inPlayer(id int) api.Place { return api.Place{Kind: 1, Id: id} }
func inBox(id int) api.Place    { return api.Place{Kind: 2, Id: id} }

// text is all that a value has; nil and empty lists are one in it.
func text(x any) string {
	return fmt.Sprintf("%+v", x)
}

// sized is a description of so many rooms, players and items that may be, where the numbers are within the limits.
func sized(rooms, players, items int) api.Desc {
	d := api.Desc{Room: 64, Player: 64, Box: 64}
	for i := range rooms {
		d.Exits = append(d.Exits, [4]int{-1, 0, rooms - 1, i})
	}
	for i := range players {
		d.Players = append(d.Players, i%max(rooms, 1))
		d.Coins = append(d.Coins, 3*i)
	}
	for i := range items {
		d.Items = append(d.Items, i%max(rooms, 1))
		d.Boxes = append(d.Boxes, i%2 == 0)
	}
	return d
}

// made is the world whose players and items are as d tells, be it right or not.
func made(d api.Desc) api.World {
	w := api.World{Desc: d, At: slices.Clone(d.Players), Coins: slices.Clone(d.Coins)}
	for _, room := range d.Items {
		w.Where = append(w.Where, inRoom(room))
	}
	return w
}

// P6.1: descriptions

// checkMay holds a description against May, New and Right.
func checkMay(t *testing.T, d api.Desc, want bool) {
	t.Helper()
	wantWorld, wantErr := made(d), api.OK
	if !want {
		wantWorld, wantErr = api.World{}, api.ErrArg
	}
	if May(d) != want {
		t.Errorf("May isn't %v of %.999s", want, text(d))
	}
	if w, err := New(d); err != wantErr || text(w) != text(wantWorld) {
		t.Errorf("New answers %.999s, %d of %.999s", text(w), err, text(d))
	}
	if Right(made(d)) != want {
		t.Errorf("Right isn't %v of the world of %.999s", want, text(d))
	}
}

func TestHowManyRooms(t *testing.T) {
	for _, n := range []int{0, 1, 2, 7, 8, 9, 10, 64, 1000} {
		checkMay(t, sized(n, 1, 0), n >= 1 && n <= 8)
		checkMay(t, sized(n, 6, 16), n >= 1 && n <= 8)
	}
	checkMay(t, api.Desc{}, false)
}

func TestHowManyPlayers(t *testing.T) {
	for _, n := range []int{0, 1, 2, 5, 6, 7, 8, 64, 1000} {
		checkMay(t, sized(1, n, 0), n >= 1 && n <= 6)
		checkMay(t, sized(8, n, 16), n >= 1 && n <= 6)
	}
}

func TestHowManyItems(t *testing.T) {
	for _, n := range []int{0, 1, 2, 15, 16, 17, 18, 64, 1000} {
		checkMay(t, sized(1, 1, n), n <= 16)
		checkMay(t, sized(8, 6, n), n <= 16)
	}
}

// around are numbers around those from 0 to most.
func around(most int) []int {
	return []int{math.MinInt, -top, -3, -2, -1, 0, 1, most - 1, most, most + 1, most + 2, 2*most + 1, top, top + 1, 1 << 32, math.MaxInt}
}

func TestWhereExitsLead(t *testing.T) {
	for rooms := 1; rooms <= 8; rooms++ {
		for room := range rooms {
			for dir := range 4 {
				for _, to := range around(rooms - 1) {
					d := sized(rooms, 1, 1)
					d.Exits[room][dir] = to
					checkMay(t, d, to >= -1 && to < rooms)
				}
			}
		}
	}
}

func TestWherePlayersBegin(t *testing.T) {
	for rooms := 1; rooms <= 8; rooms++ {
		for players := 1; players <= 6; players++ {
			for _, room := range around(rooms - 1) {
				d := sized(rooms, players, 2)
				d.Players[players-1] = room
				checkMay(t, d, room >= 0 && room < rooms)
				d = sized(rooms, players, 2)
				d.Players[0] = room
				checkMay(t, d, room >= 0 && room < rooms)
			}
		}
	}
}

func TestWhereItemsBegin(t *testing.T) {
	for rooms := 1; rooms <= 8; rooms++ {
		for items := 1; items <= 16; items++ {
			for _, room := range around(rooms - 1) {
				d := sized(rooms, 2, items)
				d.Items[items-1] = room
				checkMay(t, d, room >= 0 && room < rooms)
				d = sized(rooms, 2, items)
				d.Items[0] = room
				checkMay(t, d, room >= 0 && room < rooms)
			}
		}
	}
}

func TestAsManyPursesAndBoxes(t *testing.T) {
	for many := 1; many <= 6; many++ {
		for _, n := range []int{0, many - 1, many, many + 1, 6, 7, 16, 1000} {
			d := sized(2, many, 3)
			d.Coins = make([]int, n)
			checkMay(t, d, n == many)
		}
	}
	for many := range 17 {
		for _, n := range []int{0, max(many-1, 0), many, many + 1, 16, 17, 1000} {
			d := sized(2, 2, many)
			d.Boxes = make([]bool, n)
			checkMay(t, d, n == many)
		}
	}
}

func TestPursesOfDescriptions(t *testing.T) {
	for players := 1; players <= 6; players++ {
		for player := range players {
			for _, n := range around(top) {
				d := sized(3, players, 3)
				d.Coins[player] = n
				checkMay(t, d, n >= 0 && n <= 1<<30)
			}
		}
	}
}

func TestCaps(t *testing.T) {
	for _, n := range around(64) {
		want := n >= 0 && n <= 64
		for _, d := range []api.Desc{
			{Room: n, Player: 1, Box: 1},
			{Room: 1, Player: n, Box: 1},
			{Room: 1, Player: 1, Box: n},
			{Room: n},
			{Player: n},
			{Box: n},
		} {
			d.Exits, d.Players, d.Coins = [][4]int{{}}, []int{0}, []int{5}
			checkMay(t, d, want)
			d.Items, d.Boxes = []int{0}, []bool{true}
			checkMay(t, d, want && d.Room >= 1)
		}
	}
}

func TestAsManyItemsAsARoomMayHave(t *testing.T) {
	for rooms := 1; rooms <= 8; rooms++ {
		for room := range rooms {
			for most := range 20 {
				for items := range 17 {
					d := sized(rooms, 1, items)
					d.Room, d.Player, d.Box = most, 0, 0
					for i := range d.Items {
						d.Items[i] = room
					}
					checkMay(t, d, items <= most)
				}
			}
		}
	}
	d := sized(8, 1, 16) // two in each room
	d.Room = 2
	checkMay(t, d, true)
	d.Items[15] = 0
	checkMay(t, d, false)
	d.Room = 3
	checkMay(t, d, true)
}

func TestEmptyListsOfDescriptions(t *testing.T) {
	d := sized(1, 1, 0)
	d.Items, d.Boxes = []int{}, nil
	checkMay(t, d, true)
	d.Items, d.Boxes = nil, []bool{}
	checkMay(t, d, true)
	d.Players, d.Coins = []int{}, []int{}
	checkMay(t, d, false)
	checkMay(t, api.Desc{Exits: [][4]int{}, Players: []int{}, Coins: []int{}, Items: []int{}, Boxes: []bool{}}, false)
}

func TestANewWorldIsAsItsDescriptionTells(t *testing.T) {
	d := api.Desc{Exits: [][4]int{{1, -1, -1, -1}, {-1, -1, 0, 1}}, Players: []int{1, 0, 1}, Coins: []int{5, top, 0}, Items: []int{1, 0}, Boxes: []bool{false, true}, Room: 3, Player: 2, Box: 1}
	w, err := New(d)
	if err != api.OK || !slices.Equal(w.At, []int{1, 0, 1}) || !slices.Equal(w.Coins, []int{5, top, 0}) || !slices.Equal(w.Where, []api.Place{{Kind: 0, Id: 1}, {Kind: 0, Id: 0}}) || text(w.Desc) != text(d) {
		t.Errorf("New answers %+v, %d", w, err)
	}
}

// P6.1: worlds

// wide is a right world of three rooms, two players and seven items, all boxes but the last one; nothing is full.
func wide() api.World {
	return made(api.Desc{
		Exits:   [][4]int{{1, -1, -1, 2}, {-1, -1, 0, 1}, {-1, 0, -1, -1}},
		Players: []int{0, 1}, Coins: []int{5, 2},
		Items: []int{0, 0, 0, 1, 1, 1, 2}, Boxes: []bool{true, true, true, true, true, true, false},
		Room: 7, Player: 7, Box: 7,
	})
}

// checkRight holds a world against Right.
func checkRight(t *testing.T, w api.World, want bool) {
	t.Helper()
	if Right(w) != want {
		t.Errorf("Right isn't %v of %.999s", want, text(w))
	}
}

// placed is a world whose items are placed, from the item 0 on; the others stay on their floors.
func placed(where ...api.Place) api.World {
	w := wide()
	copy(w.Where, where)
	return w
}

func TestAWorldOfAWrongDescriptionIsNotRight(t *testing.T) {
	for i, change := range []func(d *api.Desc){
		func(d *api.Desc) { d.Exits[2][3] = 3 },
		func(d *api.Desc) { d.Exits[0][0] = -2 },
		func(d *api.Desc) { d.Players[1] = 3 },
		func(d *api.Desc) { d.Players = d.Players[:1] },
		func(d *api.Desc) { d.Coins[0] = -1 },
		func(d *api.Desc) { d.Coins = append(d.Coins, 0) },
		func(d *api.Desc) { d.Items[6] = 3 },
		func(d *api.Desc) { d.Items = d.Items[:6] },
		func(d *api.Desc) { d.Boxes = d.Boxes[:6] },
		func(d *api.Desc) { d.Room = 2 },
		func(d *api.Desc) { d.Player = -1 },
		func(d *api.Desc) { d.Box = 65 },
		func(d *api.Desc) { *d = api.Desc{} },
	} {
		w := wide()
		checkRight(t, w, true)
		change(&w.Desc)
		if Right(w) {
			t.Errorf("%d: Right of %+v", i, w)
		}
	}
	checkRight(t, api.World{}, false)
	checkRight(t, api.World{Desc: sized(1, 1, 0)}, false)
}

func TestDescriptionsItemsMayBeElsewhereByNow(t *testing.T) {
	w := placed(inRoom(2), inRoom(2), inPlayer(0), inPlayer(1), inBox(3), inBox(4), inBox(0))
	w.At, w.Coins = []int{2, 2}, []int{0, top}
	checkRight(t, w, true)
}

func TestPlayersOfWorlds(t *testing.T) {
	for player := range 2 {
		for _, room := range around(2) {
			w := wide()
			w.At[player] = room
			checkRight(t, w, room >= 0 && room <= 2)
		}
		for _, n := range around(top) {
			w := wide()
			w.Coins[player] = n
			checkRight(t, w, n >= 0 && n <= 1<<30)
		}
	}
}

func TestLengthsOfAWorldsLists(t *testing.T) {
	for _, n := range []int{0, 1, 2, 3, 6, 7, 8, 16, 1000} {
		w := wide()
		w.At = make([]int, n)
		checkRight(t, w, n == 2)
		w = wide()
		w.Coins = make([]int, n)
		checkRight(t, w, n == 2)
		w = wide()
		w.Where = make([]api.Place, n)
		checkRight(t, w, n == 7)
	}
	w := made(sized(1, 1, 0))
	w.Where = []api.Place{}
	checkRight(t, w, true)
	w.Where = []api.Place{{}}
	checkRight(t, w, false)
	w.Where, w.At = nil, nil
	checkRight(t, w, false)
}

func TestPlacesThatThereAre(t *testing.T) {
	for item := range 7 {
		for kind, most := range map[int]int{0: 2, 1: 1, 2: 5} {
			for _, id := range around(most) {
				w := wide()
				w.Where[item] = api.Place{Kind: kind, Id: id}
				checkRight(t, w, id >= 0 && id <= most && w.Where[item] != inBox(item))
			}
		}
		for _, kind := range []int{math.MinInt, -2, -1, 3, 4, 1 << 32, math.MaxInt} {
			for _, id := range []int{-1, 0, 1} {
				w := wide()
				w.Where[item] = api.Place{Kind: kind, Id: id}
				checkRight(t, w, false)
			}
		}
	}
}

func TestInWhatIsNoBox(t *testing.T) {
	for box := range 7 {
		for item := range 7 {
			if item == box {
				continue
			}
			w := wide()
			w.Where[item] = inBox(box)
			checkRight(t, w, box != 6)
			w.Desc.Boxes = []bool{false, false, false, false, false, false, false}
			checkRight(t, w, false)
			w.Desc.Boxes[box] = true
			checkRight(t, w, true)
		}
	}
}

func TestNoItemIsWithinItself(t *testing.T) {
	for item := range 6 {
		w := wide()
		w.Where[item] = inBox(item)
		checkRight(t, w, false)
	}
	for size := 1; size <= 16; size++ {
		d := sized(1, 1, 16)
		for i := range d.Boxes {
			d.Boxes[i] = true
		}
		w := made(d)
		for i := range size {
			w.Where[i] = inBox((i + 1) % size)
		}
		checkRight(t, w, false)
		w.Where[15] = inBox(0) // below a circle, or in one
		checkRight(t, w, false)
		w.Where[size-1] = inRoom(0)
		w.Where[15] = inRoom(0)
		checkRight(t, w, size <= 5) // the circle, opened
	}
	checkRight(t, placed(inBox(1), inBox(0)), false)
	checkRight(t, placed(inRoom(0), inBox(2), inBox(3), inBox(1)), false)
	checkRight(t, placed(inBox(4), inBox(2), inBox(1), inRoom(0), inRoom(1)), false)
}

func TestHowDeepItemsMayBe(t *testing.T) {
	for _, last := range []api.Place{inRoom(2), inPlayer(1)} {
		for depth := range 7 {
			w := wide()
			for i := range depth { // the item 6 is the lowest one
				w.Where[6-i] = inBox(5 - i)
			}
			w.Where[6-depth] = last
			checkRight(t, w, depth <= 4)
			w = wide()
			w.Where[0] = last
			for i := range depth { // rising, from the item 0
				w.Where[i+1] = inBox(i)
			}
			checkRight(t, w, depth <= 4)
		}
	}
	checkRight(t, placed(inRoom(0), inBox(0), inBox(1), inBox(2), inBox(3), inBox(3), inBox(3)), true)
	checkRight(t, placed(inRoom(0), inBox(0), inBox(1), inBox(2), inBox(3), inBox(3), inBox(4)), false)
}

func TestAsManyItemsAsAPlaceMayHave(t *testing.T) {
	for items := 1; items <= 15; items++ {
		for most := range 17 {
			for _, x := range []struct {
				at  api.Place
				cap func(d *api.Desc, most int)
			}{
				{inRoom(1), func(d *api.Desc, most int) { d.Room = most }},
				{inPlayer(0), func(d *api.Desc, most int) { d.Player = most }},
				{inPlayer(1), func(d *api.Desc, most int) { d.Player = most }},
				{inBox(15), func(d *api.Desc, most int) { d.Box = most }},
			} {
				if x.at.Kind == api.InRoom && most < 2 {
					continue // the description needs as many
				}
				d := sized(8, 2, 16)
				d.Boxes[15] = true
				x.cap(&d, most)
				w := made(d)
				moveFrom(w, x.at, items)
				checkRight(t, w, items <= most)
			}
		}
	}
}

// moveFrom puts so many items there, and no others.
func moveFrom(w api.World, at api.Place, items int) {
	has := 0
	for i, old := range w.Where {
		if old == at {
			has++
		} else if has < items && at != inBox(i) {
			w.Where[i] = at
			has++
		}
	}
	for i := range w.Where {
		if has > items && w.Where[i] == at {
			w.Where[i] = inPlayer(1)
			has--
		}
	}
}

func TestPlacesOfOneNumberAreOthers(t *testing.T) {
	d := sized(2, 2, 3)
	d.Room, d.Player, d.Box = 2, 1, 1
	w := made(d)
	w.Where = []api.Place{inRoom(0), inPlayer(0), inBox(0)}
	checkRight(t, w, true)
	w.Where = []api.Place{inRoom(0), inPlayer(0), inPlayer(1)}
	checkRight(t, w, true)
	w.Where = []api.Place{inRoom(0), inPlayer(0), inPlayer(0)}
	checkRight(t, w, false)
	w.Where = []api.Place{inRoom(0), inBox(0), inBox(0)}
	checkRight(t, w, false)
}

func TestOnlyWhatIsDirectlyThereCounts(t *testing.T) {
	d := sized(3, 1, 6)
	d.Boxes = []bool{true, true, true, true, true, true}
	d.Room, d.Player, d.Box = 2, 1, 2
	w := made(d)
	w.Where = []api.Place{inPlayer(0), inBox(0), inBox(0), inBox(1), inBox(1), inBox(2)}
	checkRight(t, w, true)
	w.Where[5] = inBox(0)
	checkRight(t, w, false)
	w.Where[5] = inPlayer(0)
	checkRight(t, w, false)
}

// isRight is told otherwise than Right tells it: by who is within whom, of all pairs.
func isRight(w api.World) bool {
	many := len(w.Where)
	within := make([][]bool, many)
	for i, at := range w.Where {
		within[i] = make([]bool, many)
		ids := map[int]int{0: len(w.Desc.Exits), 1: len(w.Desc.Players), 2: many}
		if many, ok := ids[at.Kind]; !ok || at.Id < 0 || at.Id >= many {
			return false
		}
		if at.Kind == 2 {
			if !w.Desc.Boxes[at.Id] {
				return false
			}
			within[i][at.Id] = true
		}
	}
	for k := range many {
		for i := range many {
			for j := range many {
				within[i][j] = within[i][j] || within[i][k] && within[k][j]
			}
		}
	}
	for i, above := range within {
		boxes := 0
		for _, is := range above {
			if is {
				boxes++
			}
		}
		if above[i] || boxes > 4 {
			return false
		}
	}
	for kind, most := range []int{w.Desc.Room, w.Desc.Player, w.Desc.Box} {
		for id := range 16 {
			has := 0
			for _, at := range w.Where {
				if at == (api.Place{Kind: kind, Id: id}) {
					has++
				}
			}
			if has > most {
				return false
			}
		}
	}
	return true
}

// checkAll holds all worlds like w whose items are at these places against Right, and tells how many are right.
func checkAll(t *testing.T, w api.World, item int, places []api.Place) int {
	t.Helper()
	if item == len(w.Where) {
		want := isRight(w)
		checkRight(t, w, want)
		if want {
			return 1
		}
		return 0
	}
	right := 0
	for _, at := range places {
		w.Where[item] = at
		right += checkAll(t, w, item+1, places)
	}
	return right
}

func TestAllSmallWorlds(t *testing.T) {
	places := []api.Place{inRoom(0), inRoom(2), inRoom(3), inPlayer(0), inPlayer(1), inBox(0), inBox(1), inBox(2), inBox(3), {Kind: 3}, {Id: -1}}
	right := 0
	for boxes := range 8 {
		for caps := range 3 * 4 * 4 {
			d := sized(3, 1, 3)
			d.Boxes = []bool{boxes&1 != 0, boxes&2 != 0, boxes&4 != 0}
			d.Room, d.Player, d.Box = 1+caps/16, caps/4%4, caps%4
			right += checkAll(t, made(d), 0, places)
		}
	}
	if right < 1000 {
		t.Errorf("only %d of these worlds are right", right)
	}
}

func TestAllWorldsOfSixBoxes(t *testing.T) {
	places := []api.Place{inRoom(0), inBox(0), inBox(1), inBox(2), inBox(3), inBox(4), inBox(5)}
	for most := 1; most <= 3; most++ {
		d := sized(2, 1, 6)
		d.Boxes = []bool{true, true, true, true, true, true}
		d.Box = most
		if right := checkAll(t, made(d), 0, places); right < 1000 {
			t.Errorf("only %d of these worlds are right", right)
		}
	}
}

func TestCopyIsLikeIt(t *testing.T) {
	odd := api.World{Desc: api.Desc{Room: -1, Player: math.MaxInt, Box: 3, Boxes: []bool{true}}, At: []int{-1, 5}, Where: []api.Place{{Kind: 9, Id: -9}}}
	circle := placed(inBox(1), inBox(0))
	for _, w := range []api.World{{}, wide(), circle, odd, made(sized(8, 6, 16)), made(sized(1, 1, 0)), made(sized(1000, 1000, 1000))} {
		if got := Copy(w); text(got) != text(w) || !Same(got, w) {
			t.Errorf("Copy answers %.999s of %.999s", text(got), text(w))
		}
	}
}

// changes are such that each makes another world of wide, by one field alone.
var changes = map[string]func(w *api.World){
	"an exit":              func(w *api.World) { w.Desc.Exits[2][3] = 0 },
	"order of exits":       func(w *api.World) { w.Desc.Exits[0][0], w.Desc.Exits[0][1] = -1, 1 },
	"a room more":          func(w *api.World) { w.Desc.Exits = append(w.Desc.Exits, [4]int{}) },
	"a room less":          func(w *api.World) { w.Desc.Exits = w.Desc.Exits[:2] },
	"no rooms":             func(w *api.World) { w.Desc.Exits = nil },
	"a first room":         func(w *api.World) { w.Desc.Players[1]++ },
	"order of players":     func(w *api.World) { w.Desc.Players = []int{1, 0} },
	"a player more":        func(w *api.World) { w.Desc.Players = append(w.Desc.Players, 0) },
	"no players":           func(w *api.World) { w.Desc.Players = nil },
	"a first purse":        func(w *api.World) { w.Desc.Coins[0]-- },
	"a first purse more":   func(w *api.World) { w.Desc.Coins = append(w.Desc.Coins, 0) },
	"no first purses":      func(w *api.World) { w.Desc.Coins = nil },
	"an item's first room": func(w *api.World) { w.Desc.Items[6]-- },
	"an item more":         func(w *api.World) { w.Desc.Items = append(w.Desc.Items, 0) },
	"an item less":         func(w *api.World) { w.Desc.Items = w.Desc.Items[:6] },
	"no items":             func(w *api.World) { w.Desc.Items = nil },
	"a box":                func(w *api.World) { w.Desc.Boxes[6] = true },
	"no box":               func(w *api.World) { w.Desc.Boxes[0] = false },
	"a box more":           func(w *api.World) { w.Desc.Boxes = append(w.Desc.Boxes, false) },
	"no boxes":             func(w *api.World) { w.Desc.Boxes = nil },
	"Room":                 func(w *api.World) { w.Desc.Room++ },
	"Player":               func(w *api.World) { w.Desc.Player-- },
	"Box":                  func(w *api.World) { w.Desc.Box = 0 },
	"far Room":             func(w *api.World) { w.Desc.Room += 1 << 32 },
	"At":                   func(w *api.World) { w.At[0] = 1 },
	"last At":              func(w *api.World) { w.At[1] = -1 },
	"order of At":          func(w *api.World) { w.At = []int{1, 0} },
	"At more":              func(w *api.World) { w.At = append(w.At, 0) },
	"At less":              func(w *api.World) { w.At = w.At[:1] },
	"no At":                func(w *api.World) { w.At = nil },
	"Coins":                func(w *api.World) { w.Coins[0]++ },
	"last Coins":           func(w *api.World) { w.Coins[1] = math.MinInt },
	"order of Coins":       func(w *api.World) { w.Coins = []int{2, 5} },
	"Coins more":           func(w *api.World) { w.Coins = append(w.Coins, 0) },
	"Coins less":           func(w *api.World) { w.Coins = w.Coins[:1] },
	"no Coins":             func(w *api.World) { w.Coins = nil },
	"a place's kind":       func(w *api.World) { w.Where[0].Kind = 1 },
	"a place's number":     func(w *api.World) { w.Where[6].Id-- },
	"a far place":          func(w *api.World) { w.Where[3].Id += 1 << 32 },
	"order of places":      func(w *api.World) { w.Where[2], w.Where[3] = w.Where[3], w.Where[2] },
	"a place more":         func(w *api.World) { w.Where = append(w.Where, api.Place{}) },
	"a place less":         func(w *api.World) { w.Where = w.Where[:6] },
	"no places":            func(w *api.World) { w.Where = nil },
}

func TestSameOfWorldsUnlikeInOneField(t *testing.T) {
	for name, change := range changes {
		a, b := wide(), wide()
		if !Same(a, b) {
			t.Fatalf("%+v and %+v aren't the same", a, b)
		}
		change(&b)
		if Same(a, b) || Same(b, a) {
			t.Errorf("%s: %+v and %+v are the same", name, a, b)
		}
		change(&a)
		if !Same(a, b) || !Same(b, a) {
			t.Errorf("%s: %+v and %+v aren't the same", name, a, b)
		}
	}
}

func TestSameOfAnyWorlds(t *testing.T) {
	list := []api.World{{}, made(api.Desc{}), made(sized(1, 1, 0)), made(sized(1, 2, 0)), made(sized(8, 6, 16)), placed(inBox(0)), placed(inBox(1), inBox(0)), wide()}
	for _, change := range changes {
		w := wide()
		change(&w)
		list = append(list, w)
	}
	for _, a := range list {
		for _, b := range list {
			if Same(a, b) != (text(a) == text(b)) {
				t.Errorf("Same(%+v, %+v) is %v", a, b, Same(a, b))
			}
		}
	}
	empty := api.World{Desc: api.Desc{Exits: [][4]int{}, Players: []int{}, Coins: []int{}, Items: []int{}, Boxes: []bool{}}, At: []int{}, Coins: []int{}, Where: []api.Place{}}
	if !Same(empty, api.World{}) || !Same(api.World{}, empty) {
		t.Error("nil and empty lists aren't one")
	}
}

// P6.2

func TestANewWorldIsRight(t *testing.T) {
	for rooms := 1; rooms <= 8; rooms++ {
		for players := 1; players <= 6; players++ {
			for items := range 17 {
				for room := range 17 {
					for _, other := range []int{0, 1, 64} {
						d := sized(rooms, players, items)
						d.Room, d.Player, d.Box = room, other, 64-other
						w, err := New(d)
						if fits := (items+rooms-1)/rooms <= room; fits != (err == api.OK) || fits != Right(w) {
							t.Fatalf("New answers %+v, %d of %+v, and it is right: %v", w, err, d, Right(w))
						}
					}
				}
			}
		}
	}
}

// P6.3

// roomy is a list like this one, with room behind its length in which something stands.
func roomy[T any](list []T, behind T) []T {
	return append(slices.Clone(list), behind, behind, behind)[:len(list)]
}

// roomyWorld is wide with such room behind all its lists.
func roomyWorld() api.World {
	w := wide()
	d := &w.Desc
	d.Exits = roomy(d.Exits, [4]int{0, 1, 2, 0})
	d.Players, d.Coins, d.Items, d.Boxes = roomy(d.Players, 1), roomy(d.Coins, 7), roomy(d.Items, 1), roomy(d.Boxes, true)
	w.At, w.Coins, w.Where = roomy(w.At, 1), roomy(w.Coins, 7), roomy(w.Where, inPlayer(1))
	return w
}

// whole is a list with the room behind its length.
func whole[T any](list []T) []T {
	return list[:cap(list)]
}

// texts are a world's lists, with the room behind their lengths.
func texts(w api.World) map[string]string {
	return map[string]string{
		"Exits":   text(whole(w.Desc.Exits)),
		"Players": text(whole(w.Desc.Players)),
		"purses":  text(whole(w.Desc.Coins)),
		"Items":   text(whole(w.Desc.Items)),
		"Boxes":   text(whole(w.Desc.Boxes)),
		"At":      text(whole(w.At)),
		"Coins":   text(whole(w.Coins)),
		"Where":   text(whole(w.Where)),
	}
}

// spoil writes all over one of a world's lists, the room behind its length included.
func spoil(w api.World, name string) {
	switch name {
	case "Exits":
		spoilList(w.Desc.Exits, [4]int{-9, -9, -9, -9})
	case "Players":
		spoilList(w.Desc.Players, -8)
	case "purses":
		spoilList(w.Desc.Coins, -7)
	case "Items":
		spoilList(w.Desc.Items, -6)
	case "Boxes":
		for i := range whole(w.Desc.Boxes) {
			whole(w.Desc.Boxes)[i] = !whole(w.Desc.Boxes)[i]
		}
	case "At":
		spoilList(w.At, -5)
	case "Coins":
		spoilList(w.Coins, -4)
	case "Where":
		spoilList(w.Where, api.Place{Kind: -3, Id: -3})
	}
}

func spoilList[T any](list []T, with T) {
	for i := range whole(list) {
		whole(list)[i] = with
	}
}

// checkTexts holds a world's lists, but for one, against what they were.
func checkTexts(t *testing.T, what string, w api.World, want map[string]string, but string) {
	t.Helper()
	for name, got := range texts(w) {
		if name != but && got != want[name] {
			t.Errorf("%s: %s became %s, and was %s", what, name, got, want[name])
		}
	}
}

func TestWhatIsHandedInStays(t *testing.T) {
	a, b := roomyWorld(), roomyWorld()
	want := texts(a)
	b.Where[0] = inBox(0)
	wantWrong := texts(b)
	New(a.Desc)
	Copy(a)
	if !May(a.Desc) || !Right(a) || Right(b) || Same(a, b) {
		t.Error("what stands behind the lists' lengths is looked at")
	}
	New(b.Desc)
	Copy(b)
	checkTexts(t, "a right world", a, want, "")
	checkTexts(t, "another one", b, wantWrong, "")
}

func TestWhatIsAnsweredIsNewMemory(t *testing.T) {
	for call, answer := range map[string]func(w api.World) api.World{
		"Copy": Copy,
		"New":  func(w api.World) api.World { got, _ := New(w.Desc); return got },
	} {
		for name := range texts(api.World{}) {
			handed := roomyWorld()
			first, second := answer(handed), answer(handed)
			want, wantFirst, wantSecond := texts(handed), texts(first), texts(second)
			spoil(first, name)
			if texts(first)[name] == wantFirst[name] {
				t.Errorf("%s: nothing was written into %s", call, name)
			}
			checkTexts(t, call+", handed in", handed, want, "")
			checkTexts(t, call+", the same answer", first, wantFirst, name)
			checkTexts(t, call+", another answer", second, wantSecond, "")
			spoil(handed, name)
			checkTexts(t, call+", an answer, when it was handed in", second, wantSecond, "")
		}
	}
}
