package ways

import (
	"fmt"
	"math"
	"slices"
	"testing"

	"innkeep/api"
	"innkeep/desc"
)

func inRoom(id int) api.Place   { return api.Place{Kind: 0, Id: id} }
func inPlayer(id int) api.Place { return api.Place{Kind: 1, Id: id} }
func inBox(id int) api.Place    { return api.Place{Kind: 2, Id: id} }

// text is all that a value has; nil and empty lists are one in it.
func text(x any) string {
	return fmt.Sprintf("%+v", x)
}

// none are the exits of a room that has none.
var none = [4]int{-1, -1, -1, -1}

// closed is a right world of so many rooms without exits, whose players are in these rooms; each one began elsewhere, with other coins.
func closed(rooms int, at ...int) api.World {
	w := api.World{Desc: api.Desc{Exits: slices.Repeat([][4]int{none}, rooms), Room: 64, Player: 64, Box: 64}, At: at}
	for p, room := range at {
		w.Desc.Players = append(w.Desc.Players, (room+1)%rooms)
		w.Desc.Coins = append(w.Desc.Coins, 100+p)
		w.Coins = append(w.Coins, 7*p)
	}
	return w
}

// wide is a right world of five rooms, five players and seven items, and nothing in it can be taken for another thing of its kind.
// The room 0 has each kind of exit: to itself, to the last room, to one between, and none; the room 3 has none at all; all exits of the room 4 lead to the room 0.
func wide() api.World {
	w := closed(5, 0, 0, 2, 3, 0)
	w.Desc.Exits = [][4]int{{4, 0, -1, 2}, {-1, 0, 3, -1}, {0, -1, 2, 4}, none, {0, 0, 0, 0}}
	w.Desc.Items = []int{0, 1, 2, 3, 4, 0, 1}
	w.Desc.Boxes = []bool{true, false, true, true, true, false, false}
	w.Where = []api.Place{inPlayer(0), inBox(0), inBox(0), inRoom(0), inPlayer(4), inBox(4), inRoom(2)}
	return w
}

// went is a world like w, in new memory, in which one player is in this room.
func went(w api.World, who, room int) api.World {
	next := desc.Copy(w)
	next.At[who] = room
	return next
}

// checkRight sees to it that a test speaks of a right world.
func checkRight(t *testing.T, w api.World) {
	t.Helper()
	if !desc.Right(w) {
		t.Fatalf("%+v isn't right", w)
	}
}

func checkExit(t *testing.T, w api.World, room, dir, want int, wantOk bool) {
	t.Helper()
	if to, ok := Exit(w, room, dir); to != want || ok != wantOk {
		t.Errorf("Exit of %d, %d is %d, %v, not %d, %v, of %v", room, dir, to, ok, want, wantOk, w.Desc.Exits)
	}
}

// fits tells whether an answer of w is this one: the player who is in that room now, or w, 0 and an error.
func fits(w api.World, who, room int, wantErr api.Errno, got api.World, to int, err api.Errno) bool {
	want := w
	if wantErr == api.OK {
		want = went(w, who, room)
	}
	return to == room && err == wantErr && desc.Same(got, want)
}

// checkMove holds Move against the room to which p comes, or the error.
func checkMove(t *testing.T, w api.World, p, dir, room int, wantErr api.Errno) {
	t.Helper()
	if got, to, err := Move(w, p, dir); !fits(w, p, room, wantErr, got, to, err) {
		t.Errorf("Move of %d, %d answers %+v, %d, %d, not %d, %d, of %+v", p, dir, got, to, err, room, wantErr, w)
	}
}

// checkPush holds Push against the room to which q comes, or the error.
func checkPush(t *testing.T, w api.World, p, q, dir, room int, wantErr api.Errno) {
	t.Helper()
	if got, to, err := Push(w, p, q, dir); !fits(w, q, room, wantErr, got, to, err) {
		t.Errorf("Push of %d, %d, %d answers %+v, %d, %d, not %d, %d, of %+v", p, q, dir, got, to, err, room, wantErr, w)
	}
}

// P8.1

func TestExit(t *testing.T) {
	w := wide()
	checkRight(t, w)
	for _, x := range []struct {
		why       string
		room, dir int
		want      int
		wantOk    bool
	}{
		{"to the last room", 0, api.North, 4, true},
		{"back into the room 0 itself", 0, api.East, 0, true},
		{"none to the south", 0, api.South, 0, false},
		{"to a room between", 0, api.West, 2, true},
		{"none to the north", 1, api.North, 0, false},
		{"to the room 0", 1, api.East, 0, true},
		{"to the next room but one", 1, api.South, 3, true},
		{"none to the west", 1, api.West, 0, false},
		{"none to the east", 2, api.East, 0, false},
		{"back into a room between itself", 2, api.South, 2, true},
		{"a room without any exit, north", 3, api.North, 0, false},
		{"a room without any exit, east", 3, api.East, 0, false},
		{"a room without any exit, south", 3, api.South, 0, false},
		{"a room without any exit, west", 3, api.West, 0, false},
		{"the last room's first exit", 4, api.North, 0, true},
		{"the last room's last exit", 4, api.West, 0, true},
	} {
		if to, ok := Exit(w, x.room, x.dir); to != x.want || ok != x.wantOk {
			t.Errorf("%s: Exit of %d, %d is %d, %v", x.why, x.room, x.dir, to, ok)
		}
	}
}

func TestExitOfEachRoomByEachWay(t *testing.T) {
	for rooms := 1; rooms <= 8; rooms++ {
		for room := range rooms {
			for dir := range 4 {
				w := closed(rooms, 0)
				checkRight(t, w)
				checkExit(t, w, room, dir, 0, false)
				for to := range rooms {
					w.Desc.Exits[room][dir] = to
					checkRight(t, w)
					checkExit(t, w, room, dir, to, true)
					checkOtherExits(t, w, room, dir)
				}
			}
		}
	}
}

// checkOtherExits sees to it that only this room has an exit, and by this way alone.
func checkOtherExits(t *testing.T, w api.World, room, dir int) {
	t.Helper()
	for other := range w.Desc.Exits {
		for way := range 4 {
			if other != room || way != dir {
				checkExit(t, w, other, way, 0, false)
			}
		}
	}
}

func TestExitAsksNothingOfPlayersAndItems(t *testing.T) {
	w := wide()
	bare := closed(5, 4)
	bare.Desc.Exits = w.Desc.Exits
	for room := range 5 {
		for dir := range 4 {
			to := w.Desc.Exits[room][dir]
			checkExit(t, w, room, dir, max(to, 0), to >= 0)
			checkExit(t, bare, room, dir, max(to, 0), to >= 0)
		}
	}
}

// P8.2: Move

func TestMove(t *testing.T) {
	w := wide()
	checkRight(t, w)
	checkMove(t, w, 0, api.North, 4, api.OK)
	checkMove(t, w, 0, api.East, 0, api.OK) // back into the room itself
	checkMove(t, w, 0, api.South, 0, api.ErrExit)
	checkMove(t, w, 0, api.West, 2, api.OK)
	checkMove(t, w, 4, api.North, 4, api.OK) // the last player
	checkMove(t, w, 4, api.East, 0, api.OK)
	checkMove(t, w, 4, api.South, 0, api.ErrExit)
	checkMove(t, w, 4, api.West, 2, api.OK)
	checkMove(t, w, 2, api.North, 0, api.OK) // the room's number isn't the player's
	checkMove(t, w, 2, api.East, 0, api.ErrExit)
	checkMove(t, w, 2, api.South, 2, api.OK)
	checkMove(t, w, 2, api.West, 4, api.OK)
	for dir := range 4 { // no way out
		checkMove(t, w, 3, dir, 0, api.ErrExit)
	}
}

func TestMoveOfEachPlayerByEachWayToEachRoom(t *testing.T) {
	for rooms := 1; rooms <= 8; rooms++ {
		for players := 1; players <= 6; players++ {
			for p := range players {
				for dir := range 4 {
					at := make([]int, players)
					at[p] = rooms - 1
					w := closed(rooms, at...)
					checkMove(t, w, p, dir, 0, api.ErrExit)
					for to := range rooms {
						w.Desc.Exits[rooms-1][dir] = to
						checkRight(t, w)
						checkMove(t, w, p, dir, to, api.OK)
						checkMove(t, w, p, (dir+1)%4, 0, api.ErrExit)
					}
				}
			}
		}
	}
}

func TestMoveOnAndOn(t *testing.T) {
	w := closed(3, 0, 0)
	w.Desc.Exits = [][4]int{{1, -1, -1, -1}, {-1, 2, 0, -1}, {-1, -1, -1, 1}}
	checkRight(t, w)
	for _, step := range []struct{ dir, room int }{{api.North, 1}, {api.East, 2}, {api.West, 1}, {api.South, 0}, {api.North, 1}} {
		checkMove(t, w, 1, step.dir, step.room, api.OK)
		w, _, _ = Move(w, 1, step.dir)
	}
	checkMove(t, w, 1, api.North, 0, api.ErrExit)
	checkMove(t, w, 0, api.North, 1, api.OK) // by where a player is, not by where it began
}

// P8.2: Push

func TestPush(t *testing.T) {
	w := wide()
	checkRight(t, w)
	for _, pair := range [][2]int{{0, 1}, {1, 0}, {0, 4}, {4, 0}, {1, 4}, {4, 1}} { // all in the room 0
		p, q := pair[0], pair[1]
		checkPush(t, w, p, q, api.North, 4, api.OK)
		checkPush(t, w, p, q, api.East, 0, api.OK) // back into the room itself
		checkPush(t, w, p, q, api.South, 0, api.ErrExit)
		checkPush(t, w, p, q, api.West, 2, api.OK)
	}
	for dir := range 4 {
		checkPush(t, went(w, 0, 3), 0, 3, dir, 0, api.ErrExit) // a room without any exit
		checkPush(t, went(w, 0, 3), 3, 0, dir, 0, api.ErrExit)
		checkPush(t, went(w, 2, 3), 2, 3, dir, 0, api.ErrExit)
	}
}

// farPlayers are no numbers of players, where there are so many.
func farPlayers(players int) []int {
	return []int{math.MinInt, -1 << 32, -players, -2, -1, players, players + 1, api.MaxPlayers, 1 << 32, math.MaxInt}
}

func TestPushOfNobody(t *testing.T) {
	for players := 1; players <= 6; players++ {
		w := closed(2, make([]int, players)...)
		w.Desc.Exits[0] = [4]int{1, 0, -1, -1}
		checkRight(t, w)
		for _, q := range farPlayers(players) {
			for p := range players {
				for dir := range 4 { // with an exit, and without one: ErrNone comes first
					checkPush(t, w, p, q, dir, 0, api.ErrNone)
				}
			}
		}
	}
}

func TestPushOfOneself(t *testing.T) {
	w := wide()
	for p := range 5 {
		for dir := range 4 { // with an exit, and without one: ErrSelf comes first
			checkPush(t, w, p, p, dir, 0, api.ErrSelf)
		}
	}
}

func TestPushOfOneInAnotherRoom(t *testing.T) {
	w := wide()
	w.At[1], w.At[4] = 1, 4
	checkRight(t, w) // each is in a room of its own
	for p := range 5 {
		for q := range 5 {
			for dir := range 4 { // with an exit of either room, and without one: ErrAway comes first
				if p != q {
					checkPush(t, w, p, q, dir, 0, api.ErrAway)
				}
			}
		}
	}
}

func TestTheFirstOfSeveralErrors(t *testing.T) {
	w := wide()
	for _, x := range []struct {
		why       string
		p, q, dir int
		want      api.Errno
	}{
		{"nobody, and no exit", 0, 5, api.South, api.ErrNone},
		{"nobody below 0, and no exit", 0, -1, api.South, api.ErrNone},
		{"nobody, of a room without any exit", 3, 5, api.North, api.ErrNone},
		{"oneself, and no exit", 0, 0, api.South, api.ErrSelf},
		{"the last one itself, and no exit", 4, 4, api.South, api.ErrSelf},
		{"oneself, in a room without any exit", 3, 3, api.North, api.ErrSelf},
		{"away, and no exit here", 0, 2, api.South, api.ErrAway},
		{"away, and no exit there", 0, 3, api.North, api.ErrAway},
		{"away, and no exit here or there", 0, 3, api.South, api.ErrAway},
		{"away, and an exit into that very room", 0, 2, api.West, api.ErrAway},
		{"no exit alone", 0, 1, api.South, api.ErrExit},
	} {
		got, to, err := Push(w, x.p, x.q, x.dir)
		if to != 0 || err != x.want || text(got) != text(w) {
			t.Errorf("%s: Push of %d, %d, %d answers %+v, %d, %d, not the error %d", x.why, x.p, x.q, x.dir, got, to, err, x.want)
		}
	}
}

func TestPushGoesByWherePlayersAre(t *testing.T) {
	w := closed(3, 1, 1, 2)
	w.Desc.Exits = [][4]int{{0, 0, 0, 0}, {2, -1, 1, 0}, {-1, 1, -1, -1}}
	w.Desc.Players = []int{0, 2, 0} // where they began, 0 and 2 were together
	checkRight(t, w)
	checkPush(t, w, 0, 1, api.North, 2, api.OK)
	checkPush(t, w, 0, 1, api.East, 0, api.ErrExit)
	checkPush(t, w, 0, 2, api.North, 0, api.ErrAway)
	next, _, _ := Push(w, 0, 1, api.North)
	checkPush(t, next, 0, 1, api.North, 0, api.ErrAway)
	checkPush(t, next, 1, 2, api.East, 1, api.OK)
	checkPush(t, next, 2, 1, api.North, 0, api.ErrExit)
}

// P8.1 to P8.3, of all small worlds

// checkAll holds all calls of a world against what the chapter says.
func checkAll(t *testing.T, w api.World) {
	t.Helper()
	for dir := range 4 {
		for room, exits := range w.Desc.Exits {
			checkExit(t, w, room, dir, max(exits[dir], 0), exits[dir] != -1)
		}
		for p, room := range w.At {
			wantErr := api.OK
			if w.Desc.Exits[room][dir] == -1 {
				wantErr = api.ErrExit
			}
			to := max(w.Desc.Exits[room][dir], 0)
			checkMove(t, w, p, dir, to, wantErr)
			for q := -1; q <= len(w.At); q++ {
				switch {
				case q == -1 || q == len(w.At):
					checkPush(t, w, p, q, dir, 0, api.ErrNone)
				case p == q:
					checkPush(t, w, p, q, dir, 0, api.ErrSelf)
				case w.At[q] != room:
					checkPush(t, w, p, q, dir, 0, api.ErrAway)
				default:
					checkPush(t, w, p, q, dir, to, wantErr)
				}
			}
		}
	}
}

// exitsOf are the exits of a room whose exits are told by a number's digits, of which there are so many.
func exitsOf(n, digits int) [4]int {
	var exits [4]int
	for dir := range exits {
		exits[dir] = n%digits - 1
		n /= digits
	}
	return exits
}

func TestAllSmallWorlds(t *testing.T) {
	for exits := range 81 * 81 { // of two rooms
		for at := range 4 {
			w := closed(2, at%2, at/2)
			w.Desc.Exits = [][4]int{exitsOf(exits%81, 3), exitsOf(exits/81, 3)}
			checkAll(t, w)
		}
	}
	for exits := range 256 { // of three rooms
		for at := range 27 {
			w := closed(3, at%3, at/3%3, at/9)
			w.Desc.Exits = [][4]int{exitsOf(exits, 4), exitsOf(255-exits, 4), exitsOf(exits*37%256, 4)}
			checkAll(t, w)
		}
	}
}

func TestWorldsAsLargeAsMayBe(t *testing.T) {
	for seed := range 64 {
		w := closed(8, 0, 0, 0, 0, 0, 0)
		for room := range 8 {
			for dir := range 4 {
				w.Desc.Exits[room][dir] = (seed*5+room*7+dir*dir*3)%9 - 1
			}
		}
		for p := range 6 {
			w.At[p] = (seed + p*p*seed/3) % 8
		}
		for item := range 16 {
			w.Desc.Items = append(w.Desc.Items, item%8)
			w.Desc.Boxes = append(w.Desc.Boxes, item%4 == 0)
			w.Where = append(w.Where, []api.Place{inRoom(item % 8), inPlayer(item % 6), inBox(item / 4 * 4), inRoom(seed % 8)}[item%4])
		}
		checkRight(t, w)
		checkAll(t, w)
	}
}

// P8.3

// checkStay sees to it that behind a call only this player may be elsewhere, and that all items, coins, and the description are as they were.
func checkStay(t *testing.T, call string, w, next api.World, who int) {
	t.Helper()
	if len(next.At) != len(w.At) {
		t.Fatalf("%s: players are at %v, and were at %v", call, next.At, w.At)
	}
	for p := range w.At {
		if p != who && next.At[p] != w.At[p] {
			t.Errorf("%s: the player %d is in the room %d, and was in the room %d", call, p, next.At[p], w.At[p])
		}
	}
	if !slices.Equal(next.Where, w.Where) {
		t.Errorf("%s: items are at %v, and were at %v", call, next.Where, w.Where)
	}
	if !slices.Equal(next.Coins, w.Coins) {
		t.Errorf("%s: coins are %v, and were %v", call, next.Coins, w.Coins)
	}
	if text(next.Desc) != text(w.Desc) {
		t.Errorf("%s: the description is %+v, and was %+v", call, next.Desc, w.Desc)
	}
	checkRight(t, next)
}

func TestNobodyElseGoesAndThingsStay(t *testing.T) {
	w := wide()
	for p := range 5 {
		for dir := range 4 {
			next, _, _ := Move(w, p, dir)
			checkStay(t, fmt.Sprintf("Move of %d, %d", p, dir), w, next, p)
			for q := -1; q <= 5; q++ {
				next, _, _ := Push(w, p, q, dir)
				checkStay(t, fmt.Sprintf("Push of %d, %d, %d", p, q, dir), w, next, q)
			}
		}
	}
}

func TestWhatIsFullLetsPlayersIn(t *testing.T) {
	w := closed(2, 0, 0, 1, 1, 1, 1)
	w.Desc.Exits = [][4]int{{1, -1, -1, -1}, none}
	w.Desc.Items, w.Desc.Boxes = []int{0, 0, 1, 1}, []bool{true, true, false, false}
	w.Where = []api.Place{inRoom(1), inPlayer(0), inBox(1), inRoom(1)}
	w.Desc.Room, w.Desc.Player, w.Desc.Box = 2, 1, 1
	checkRight(t, w)
	checkMove(t, w, 0, api.North, 1, api.OK)
	checkPush(t, w, 0, 1, api.North, 1, api.OK)
	checkPush(t, w, 1, 0, api.North, 1, api.OK)
}

// P8.4

// roomy is a list like this one, with room behind its length in which something stands.
func roomy[T any](list []T, behind T) []T {
	return append(slices.Clone(list), behind, behind, behind)[:len(list)]
}

// whole is a list with the room behind its length.
func whole[T any](list []T) []T {
	return list[:cap(list)]
}

// roomyWorld is wide with such room behind all its lists; what stands there would tell, if it were looked at.
func roomyWorld() api.World {
	w := wide()
	d := &w.Desc
	d.Exits = roomy(d.Exits, [4]int{1, 1, 1, 1})
	d.Players, d.Coins, d.Items, d.Boxes = roomy(d.Players, 1), roomy(d.Coins, 7), roomy(d.Items, 1), roomy(d.Boxes, true)
	w.At, w.Coins, w.Where = roomy(w.At, 0), roomy(w.Coins, 7), roomy(w.Where, inPlayer(1))
	return w
}

// lists are a world's lists, with the room behind their lengths, as texts.
func lists(w api.World) map[string]string {
	return map[string]string{
		"Exits":   text(whole(w.Desc.Exits)),
		"Players": text(whole(w.Desc.Players)),
		"purses":  text(whole(w.Desc.Coins)),
		"Items":   text(whole(w.Desc.Items)),
		"Boxes":   text(whole(w.Desc.Boxes)),
		"At":      text(whole(w.At)),
		"Coins":   text(whole(w.Coins)),
		"Where":   text(whole(w.Where)),
	}
}

// spoilers write all over one of a world's lists, the room behind its length included.
var spoilers = map[string]func(w api.World){
	"Exits":   func(w api.World) { fill(w.Desc.Exits, [4]int{-9, -9, -9, -9}) },
	"Players": func(w api.World) { fill(w.Desc.Players, -8) },
	"purses":  func(w api.World) { fill(w.Desc.Coins, -7) },
	"Items":   func(w api.World) { fill(w.Desc.Items, -6) },
	"Boxes":   func(w api.World) { fill(w.Desc.Boxes, !w.Desc.Boxes[0]) },
	"At":      func(w api.World) { fill(w.At, -5) },
	"Coins":   func(w api.World) { fill(w.Coins, -4) },
	"Where":   func(w api.World) { fill(w.Where, api.Place{Kind: -3, Id: -3}) },
}

func fill[T any](list []T, with T) {
	for i := range whole(list) {
		whole(list)[i] = with
	}
}

// checkLists holds a world's lists, but for one, against what they were.
func checkLists(t *testing.T, what string, w api.World, want map[string]string, but string) {
	t.Helper()
	for name, got := range lists(w) {
		if name != but && got != want[name] {
			t.Errorf("%s: %s became %s, and was %s", what, name, got, want[name])
		}
	}
}

// goings are calls in which somebody goes, of wide.
var goings = map[string]func(w api.World) (api.World, int, api.Errno){
	"Move":                      func(w api.World) (api.World, int, api.Errno) { return Move(w, 0, api.North) },
	"Move into the room itself": func(w api.World) (api.World, int, api.Errno) { return Move(w, 4, api.East) },
	"Push":                      func(w api.World) (api.World, int, api.Errno) { return Push(w, 4, 1, api.West) },
	"Push into the room itself": func(w api.World) (api.World, int, api.Errno) { return Push(w, 1, 4, api.East) },
}

func TestWhatIsHandedInStays(t *testing.T) {
	w := roomyWorld()
	want := lists(w)
	for p := range 5 {
		for dir := range 4 {
			Exit(w, p, dir)
			Move(w, p, dir)
			for q := -1; q <= 5; q++ {
				Push(w, p, q, dir)
			}
			checkLists(t, fmt.Sprintf("calls of %d, %d", p, dir), w, want, "")
		}
	}
}

func TestWhatStandsBehindTheListsIsNotLookedAt(t *testing.T) {
	w := roomyWorld()
	checkRight(t, w)
	checkAll(t, w)
}

func TestWhatIsAnsweredIsNewMemory(t *testing.T) {
	for call, going := range goings {
		for name, spoil := range spoilers {
			w := roomyWorld()
			first, _, err := going(w)
			second, _, _ := going(w)
			if err != api.OK {
				t.Fatalf("%s: error %d", call, err)
			}
			want, wantFirst, wantSecond := lists(w), lists(first), lists(second)
			spoil(first)
			if lists(first)[name] == wantFirst[name] {
				t.Errorf("%s: nothing was written into %s", call, name)
			}
			checkLists(t, call+", handed in", w, want, "")
			checkLists(t, call+", the same answer", first, wantFirst, name)
			checkLists(t, call+", another answer", second, wantSecond, "")
			spoil(w)
			checkLists(t, call+", an answer, when what was handed in was written into", second, wantSecond, "")
		}
	}
}

// Whatever is handed in, calls end, and none panics.

func TestWrongArgumentsEndAndDoNotPanic(t *testing.T) {
	numbers := []int{math.MinInt, -1 << 32, -2, -1, 0, 1, 2, 3, 4, 5, 6, 8, 1 << 32, math.MaxInt}
	odd := wide()
	odd.At = []int{-1, 5, math.MaxInt, math.MinInt, 0}
	far := wide()
	far.Desc.Exits = [][4]int{{5, -2, math.MaxInt, math.MinInt}, {}, {}, {}, {}}
	few := wide()
	few.At = []int{0}
	many := wide()
	many.At = make([]int, 100)
	for _, w := range []api.World{{}, {At: []int{0}}, {Desc: wide().Desc}, wide(), odd, far, few, many} {
		want := text(w)
		for _, p := range numbers {
			for _, dir := range numbers {
				Exit(w, p, dir)
				Move(w, p, dir)
				for _, q := range numbers {
					Push(w, p, q, dir)
				}
			}
		}
		if got := text(w); got != want {
			t.Errorf("the world became %s, and was %s", got, want)
		}
	}
}
