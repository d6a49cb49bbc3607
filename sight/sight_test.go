package sight

import (
	"fmt"
	"math"
	"slices"
	"testing"

	"innkeep/api"
	"innkeep/boxes"
	"innkeep/desc"
	"innkeep/hold"
	"innkeep/reply"
	"innkeep/ways"
)

// maxCoins is as many coins as one may have.
const maxCoins = 1 << 30

func inRoom(id int) api.Place   { return api.Place{Kind: 0, Id: id} }
func inPlayer(id int) api.Place { return api.Place{Kind: 1, Id: id} }
func inBox(id int) api.Place    { return api.Place{Kind: 2, Id: id} }

// text is all that a value has; nil and empty lists are one in it.
func text(x any) string {
	return fmt.Sprintf("%+v", x)
}

// sized is a world of so many rooms, whose players are in these rooms, and began in others, where there are such, with other purses; there are no items yet, and nothing is full.
func sized(rooms int, at ...int) api.World {
	w := api.World{Desc: api.Desc{Exits: make([][4]int, rooms), Room: 64, Player: 64, Box: 64}, At: at}
	for p, room := range at {
		w.Desc.Players = append(w.Desc.Players, (room+1)%rooms)
		w.Desc.Coins = append(w.Desc.Coins, 1000+p)
		w.Coins = append(w.Coins, 10+7*p)
	}
	return w
}

// with is a world like w with items more, all of them boxes, at these places; they began in one room after the other.
func with(w api.World, where ...api.Place) api.World {
	w = desc.Copy(w)
	for _, at := range where {
		w.Desc.Items = append(w.Desc.Items, len(w.Where)%len(w.Desc.Exits))
		w.Desc.Boxes = append(w.Desc.Boxes, true)
		w.Where = append(w.Where, at)
	}
	return w
}

// paid is a world like w, in new memory, in which the first players have so many coins.
func paid(w api.World, coins ...int) api.World {
	next := desc.Copy(w)
	copy(next.Coins, coins)
	return next
}

// moved is a world like w, in new memory, in which the player p is in this room.
func moved(w api.World, p, room int) api.World {
	next := desc.Copy(w)
	next.At[p] = room
	return next
}

// wide is a right world of four rooms, five players and sixteen items. The players 1 and 3 are in the room 2, together; others of lower, higher, and of numbers between are elsewhere; nobody is in the room 1; and no player is in the room of its own number.
func wide() api.World {
	w := with(sized(4, 3, 2, 0, 2, 3),
		inBox(14),   // 0: below what is told last
		inRoom(2),   // 1: on the floor where the players 1 and 3 are, with others in it
		inBox(1),    // 2
		inBox(2),    // 3
		inPlayer(1), // 4: with the player 1, with others in it
		inBox(13),   // 5
		inPlayer(3), // 6: with the player 3, with others in it
		inBox(6),    // 7
		inRoom(1),   // 8: where nobody is
		inBox(8),    // 9
		inRoom(3),   // 10: on another floor
		inPlayer(0), // 11: with a player elsewhere
		inRoom(2),   // 12: no box
		inBox(4),    // 13
		inRoom(2),   // 14
		inPlayer(1), // 15: the last item, no box
	)
	w.Desc.Boxes[12], w.Desc.Boxes[15] = false, false
	return w
}

// checkRight sees to it that a test speaks of a right world.
func checkRight(t *testing.T, w api.World) {
	t.Helper()
	if !desc.Right(w) {
		t.Fatalf("%+v isn't right", w)
	}
}

// list are numbers of players, or of items.
func list(numbers ...int) []int {
	return numbers
}

// told are these items, each with its own place.
func told(w api.World, items ...int) []api.Seen {
	var seen []api.Seen
	for _, item := range items {
		seen = append(seen, api.Seen{Item: item, At: w.Where[item]})
	}
	return seen
}

func checkPresent(t *testing.T, w api.World, room int, want ...int) {
	t.Helper()
	if got := Present(w, room); !slices.Equal(got, want) {
		t.Errorf("Present of %d is %v, not %v, of %v", room, got, want, w.At)
	}
}

// checkReply holds all fields of an answer against these, and sees to it that it may be.
func checkReply(t *testing.T, call string, w api.World, p int, got, want api.Reply) {
	t.Helper()
	if !reply.Same(got, want) {
		t.Errorf("%s of %d is %+v, not %+v, of players at %v with %v coins, items at %v", call, p, got, want, w.At, w.Coins, w.Where)
	}
	if !reply.May(got) {
		t.Errorf("%s of %d is %+v, which may not be", call, p, got)
	}
}

func checkLook(t *testing.T, w api.World, p, room int, players []int, items ...int) {
	t.Helper()
	checkReply(t, "Look", w, p, Look(w, p), api.Reply{Kind: 9, Room: room, Players: players, Items: told(w, items...)})
}

func checkOwn(t *testing.T, w api.World, p, coins int, items ...int) {
	t.Helper()
	checkReply(t, "Own", w, p, Own(w, p), api.Reply{Kind: 10, Coins: coins, Items: told(w, items...)})
}

// P12.1, Present

func TestPresentInEachRoom(t *testing.T) {
	for rooms := 2; rooms <= 8; rooms++ {
		for room := range rooms {
			for players := 1; players <= 6; players++ {
				w := sized(rooms, slices.Repeat([]int{room}, players)...) // all of them in one room
				checkRight(t, w)
				for other := range rooms {
					if other != room {
						checkPresent(t, w, other)
					}
				}
				checkPresent(t, w, room, list(0, 1, 2, 3, 4, 5)[:players]...)
			}
		}
	}
}

func TestPresentOfOnePlayer(t *testing.T) {
	for p := range 6 {
		for _, room := range []int{0, 3, 7} {
			w := moved(sized(8, 5, 5, 5, 5, 5, 5), p, room)
			checkRight(t, w)
			checkPresent(t, w, room, p)
			checkPresent(t, w, 5, slices.DeleteFunc(list(0, 1, 2, 3, 4, 5), func(n int) bool { return n == p })...)
			checkPresent(t, w, 1)
		}
	}
}

func TestPresentInTheOnlyRoom(t *testing.T) {
	checkPresent(t, sized(1, 0), 0, 0)
	checkPresent(t, sized(1, 0, 0, 0, 0, 0, 0), 0, 0, 1, 2, 3, 4, 5)
}

func TestPresentRise(t *testing.T) {
	w := wide()
	checkRight(t, w)
	checkPresent(t, w, 0, 2)
	checkPresent(t, w, 1)
	checkPresent(t, w, 2, 1, 3)
	checkPresent(t, w, 3, 0, 4)
	w = sized(8, 7, 0, 7, 0, 7, 0)
	checkPresent(t, w, 7, 0, 2, 4)
	checkPresent(t, w, 0, 1, 3, 5)
}

func TestPresentGoesByWherePlayersAre(t *testing.T) {
	w := sized(3, 1, 2, 1)
	w.Desc.Players = []int{0, 0, 2} // where they began
	checkRight(t, w)
	checkPresent(t, w, 0)
	checkPresent(t, w, 1, 0, 2)
	checkPresent(t, w, 2, 1)
	checkPresent(t, moved(w, 0, 0), 0, 0)
	checkPresent(t, moved(w, 0, 0), 1, 2)
}

func TestPresentOfEachWayToBeInRooms(t *testing.T) {
	for n := range 729 { // six players in three rooms
		var at []int
		present := [3][]int{}
		for p := range 6 {
			at = append(at, n%3)
			present[n%3] = append(present[n%3], p)
			n /= 3
		}
		w := sized(3, at...)
		for room, players := range present {
			checkPresent(t, w, room, players...)
			for _, p := range players {
				checkLook(t, w, p, room, players)
			}
		}
	}
}

// P12.1, Look

func TestLook(t *testing.T) {
	w := wide()
	checkRight(t, w)
	checkLook(t, w, 0, 3, list(0, 4), 10)
	checkLook(t, w, 1, 2, list(1, 3), 0, 1, 2, 3, 12, 14)
	checkLook(t, w, 2, 0, list(2))
	checkLook(t, w, 3, 2, list(1, 3), 0, 1, 2, 3, 12, 14)
	checkLook(t, w, 4, 3, list(0, 4), 10)
	checkLook(t, moved(w, 4, 1), 4, 1, list(4), 8, 9)
}

func TestLookAlone(t *testing.T) {
	checkLook(t, sized(1, 0), 0, 0, list(0))
	for p := range 6 {
		for _, room := range []int{0, 1, 7} {
			w := moved(with(sized(8, 3, 3, 3, 3, 3, 3), inRoom(3), inPlayer(p)), p, room)
			checkRight(t, w)
			checkLook(t, w, p, room, list(p))
		}
	}
}

func TestLookIsOneForAllInTheRoom(t *testing.T) {
	all := list(0, 1, 2, 3, 4, 5)
	for _, room := range []int{0, 4, 7} {
		w := with(sized(8, slices.Repeat([]int{room}, 6)...), inRoom(room), inBox(0), inRoom(2), inPlayer(3))
		checkRight(t, w)
		for _, p := range all {
			checkLook(t, w, p, room, all, 0, 1)
		}
	}
}

func TestLookAtWhatIsNotThere(t *testing.T) {
	for _, x := range []struct {
		why   string
		where []api.Place
	}{
		{"there is no item", nil},
		{"in another room", []api.Place{inRoom(0), inRoom(2)}},
		{"in a box in another room", []api.Place{inRoom(0), inBox(0), inBox(1)}},
		{"what one has oneself", []api.Place{inPlayer(0)}},
		{"in a box that one has oneself", []api.Place{inPlayer(0), inBox(0)}},
		{"what another one has in the room", []api.Place{inPlayer(1)}},
		{"in a box that another one has in the room", []api.Place{inPlayer(1), inBox(0), inBox(1)}},
		{"what one elsewhere has", []api.Place{inPlayer(2)}},
		{"in a box of the room's number", []api.Place{inRoom(0), inPlayer(2), inBox(1)}},
	} {
		w := with(sized(3, 1, 1, 2), x.where...)
		checkRight(t, w)
		if got := Look(w, 0); len(got.Items) != 0 {
			t.Errorf("%s: %+v", x.why, got)
		}
		checkLook(t, w, 0, 1, list(0, 1))
		checkLook(t, w, 1, 1, list(0, 1))
	}
}

func TestLookGoesByWhereItemsAre(t *testing.T) {
	w := with(sized(2, 1), inRoom(1), inRoom(0), inPlayer(0))
	w.Desc.Items = []int{0, 1, 1} // where they began
	w.Desc.Players = []int{0}
	checkRight(t, w)
	checkLook(t, w, 0, 1, list(0), 0)
	checkLook(t, moved(w, 0, 0), 0, 0, list(0), 1)
}

// P12.1, Own

func TestOwn(t *testing.T) {
	w := wide()
	checkRight(t, w)
	checkOwn(t, w, 0, 10, 11)
	checkOwn(t, w, 1, 17, 4, 5, 13, 15)
	checkOwn(t, w, 2, 24)
	checkOwn(t, w, 3, 31, 6, 7)
	checkOwn(t, w, 4, 38)
}

func TestOwnOfWhatOneHasNot(t *testing.T) {
	for _, x := range []struct {
		why   string
		where []api.Place
	}{
		{"there is no item", nil},
		{"on the floor here", []api.Place{inRoom(1)}},
		{"in a box on the floor here", []api.Place{inRoom(1), inBox(0), inBox(1)}},
		{"on the floor of one's own number", []api.Place{inRoom(0), inBox(0)}},
		{"what another one has in the room", []api.Place{inPlayer(1)}},
		{"in a box that another one has in the room", []api.Place{inPlayer(1), inBox(0), inBox(1)}},
		{"what one elsewhere has", []api.Place{inPlayer(2)}},
		{"in a box of one's own number", []api.Place{inPlayer(2), inBox(0)}},
	} {
		w := with(sized(3, 1, 1, 2), x.where...)
		checkRight(t, w)
		if got := Own(w, 0); len(got.Items) != 0 {
			t.Errorf("%s: %+v", x.why, got)
		}
		checkOwn(t, w, 0, 10)
	}
}

func TestOwnTellsOnesOwnCoins(t *testing.T) {
	for players := 1; players <= 6; players++ {
		for p := range players {
			for _, coins := range []int{0, 1, 5, maxCoins - 1, maxCoins} {
				w := sized(2, make([]int, players)...)
				w.Coins[p] = coins
				checkRight(t, w)
				for q := range players {
					want := 10 + 7*q
					if q == p {
						want = coins
					}
					checkOwn(t, w, q, want)
				}
			}
		}
	}
	w := paid(sized(1, 0, 0), 0, 0)
	w.Desc.Coins = []int{5, maxCoins} // what they had when they began
	checkRight(t, w)
	checkOwn(t, w, 0, 0)
	checkOwn(t, w, 1, 0)
}

func TestLookTellsNoCoinsAndOwnNoRoom(t *testing.T) {
	w := with(paid(sized(8, 7, 7), maxCoins, 3), inRoom(7), inPlayer(0))
	checkRight(t, w)
	if got := Look(w, 0); got.Coins != 0 || got.Err != api.OK || got.Kind != api.Look {
		t.Errorf("Look is %+v", got)
	}
	if got := Own(w, 0); got.Room != 0 || len(got.Players) != 0 || got.Err != api.OK || got.Kind != api.Own {
		t.Errorf("Own is %+v", got)
	}
}

// P12.1, what is told of items

// orders are in which items, from the highest to the lowest one, are one in another.
var orders = [][]int{{0, 1, 2, 3, 4}, {4, 3, 2, 1, 0}, {2, 0, 4, 1, 3}, {1, 4, 0, 3, 2}}

func TestBoxesInBoxesAsDeepAsMayBe(t *testing.T) {
	for _, order := range orders {
		for deepest := range 5 { // four boxes above the lowest one are the most
			for _, root := range []api.Place{inRoom(0), inRoom(2), inPlayer(0), inPlayer(3)} {
				where := slices.Repeat([]api.Place{inRoom(1)}, 5)
				where[order[0]] = root
				for depth := 1; depth <= deepest; depth++ {
					where[order[depth]] = inBox(order[depth-1])
				}
				w := with(sized(3, 0, 1, 2, 2), where...)
				checkRight(t, w)
				below := slices.Sorted(slices.Values(order[:deepest+1]))
				rest := slices.Sorted(slices.Values(order[deepest+1:]))
				checkLook(t, w, 1, 1, list(1), rest...)
				for _, x := range []struct {
					at        api.Place
					p, coins  int
					players   []int
					isInHands bool
				}{{inRoom(0), 0, 10, list(0), false}, {inRoom(2), 2, 24, list(2, 3), false}, {inPlayer(0), 0, 10, list(0), true}, {inPlayer(3), 3, 31, list(2, 3), true}} {
					var want []int
					if x.at == root {
						want = below
					}
					if x.isInHands {
						checkOwn(t, w, x.p, x.coins, want...)
					} else {
						checkLook(t, w, x.p, x.at.Id, x.players, want...)
					}
				}
			}
		}
	}
}

func TestItemsRise(t *testing.T) {
	// At each of these are 5, 2 and 0; in 5 are 4 and 1, in 2 are 6 and 3: what is told later is as often above as below.
	for _, at := range []api.Place{inRoom(2), inPlayer(1)} {
		w := with(sized(3, 2, 2), at, inBox(5), at, inBox(2), inBox(5), at, inBox(2), inRoom(1))
		checkRight(t, w)
		all := list(0, 1, 2, 3, 4, 5, 6)
		if at.Kind == api.InRoom {
			checkLook(t, w, 0, 2, list(0, 1), all...)
			checkOwn(t, w, 1, 17)
		} else {
			checkLook(t, w, 0, 2, list(0, 1))
			checkOwn(t, w, 1, 17, all...)
		}
	}
}

func TestEachItemIsToldWithItsOwnPlace(t *testing.T) {
	w := with(sized(3, 0, 2), inRoom(2), inBox(0), inBox(1), inPlayer(1), inBox(3), inBox(4), inRoom(2))
	checkRight(t, w)
	look := []api.Seen{{Item: 0, At: inRoom(2)}, {Item: 1, At: inBox(0)}, {Item: 2, At: inBox(1)}, {Item: 6, At: inRoom(2)}}
	own := []api.Seen{{Item: 3, At: inPlayer(1)}, {Item: 4, At: inBox(3)}, {Item: 5, At: inBox(4)}}
	checkReply(t, "Look", w, 1, Look(w, 1), api.Reply{Kind: api.Look, Room: 2, Players: list(1), Items: look})
	checkReply(t, "Own", w, 1, Own(w, 1), api.Reply{Kind: api.Own, Coins: 17, Items: own})
}

func TestAsManyItemsAsMayBe(t *testing.T) {
	var all []int
	for item := range 16 {
		all = append(all, item)
	}
	w := with(sized(8, 7, 7, 7, 7, 7, 7), slices.Repeat([]api.Place{inRoom(7)}, 16)...)
	checkRight(t, w)
	checkLook(t, w, 5, 7, list(0, 1, 2, 3, 4, 5), all...)
	checkOwn(t, w, 5, 45)
	w = with(paid(sized(8, 7, 7, 7, 7, 7, 7), 0, 0, 0, 0, 0, maxCoins), slices.Repeat([]api.Place{inPlayer(5)}, 16)...)
	checkRight(t, w)
	checkLook(t, w, 5, 7, list(0, 1, 2, 3, 4, 5))
	checkOwn(t, w, 5, maxCoins, all...)
	w = with(sized(8, 0, 7), append(slices.Repeat([]api.Place{inBox(15)}, 15), inRoom(0))...)
	checkRight(t, w)
	checkLook(t, w, 0, 0, list(0), all...)
	checkLook(t, w, 1, 7, list(1))
}

// P12.1 and P12.2, over many worlds

// below are the items that hang from a place, rising, gathered downwards.
func below(w api.World, at api.Place) []int {
	var items []int
	for item, place := range w.Where {
		if place == at {
			items = append(items, item)
			items = append(items, below(w, inBox(item))...)
		}
	}
	slices.Sort(items)
	return items
}

// checkWorld holds all answers against what is gathered downwards.
func checkWorld(t *testing.T, w api.World) {
	t.Helper()
	present := map[int][]int{}
	for p, room := range w.At {
		present[room] = append(present[room], p)
	}
	for room := range w.Desc.Exits {
		checkPresent(t, w, room, present[room]...)
	}
	for p, room := range w.At {
		checkLook(t, w, p, room, present[room], below(w, inRoom(room))...)
		checkOwn(t, w, p, w.Coins[p], below(w, inPlayer(p))...)
	}
}

// lookers are, for each room, the world and a player who looks there: one who is there, or else one who went there.
func lookers(w api.World) ([]api.World, []int) {
	var worlds []api.World
	var players []int
	for room := range w.Desc.Exits {
		if p := slices.Index(w.At, room); p >= 0 {
			worlds, players = append(worlds, w), append(players, p)
		} else {
			p := room % len(w.At)
			worlds, players = append(worlds, moved(w, p, room)), append(players, p)
		}
	}
	return worlds, players
}

// checkJustOnce holds P12.2, with Look and Own alone.
func checkJustOnce(t *testing.T, w api.World) {
	t.Helper()
	seen := make([]int, len(w.Where))
	worlds, players := lookers(w)
	for n, p := range players {
		for _, x := range Look(worlds[n], p).Items {
			seen[x.Item]++
		}
	}
	for p := range w.At {
		for _, x := range Own(w, p).Items {
			seen[x.Item]++
		}
	}
	for item, times := range seen {
		if times != 1 {
			t.Errorf("the item %d is seen, or had, %d times, of players at %v, items at %v", item, times, w.At, w.Where)
		}
	}
}

// placesOf are all places that an item of such a world may have, but for what isn't right.
func placesOf(rooms, players, items int) []api.Place {
	var places []api.Place
	for id := range rooms {
		places = append(places, inRoom(id))
	}
	for id := range players {
		places = append(places, inPlayer(id))
	}
	for id := range items {
		places = append(places, inBox(id))
	}
	return places
}

// digits are those of n, in a system of so many digits.
func digits(n, many, length int) []int {
	list := make([]int, length)
	for i := range list {
		list[i] = n % many
		n /= many
	}
	return list
}

func power(many, length int) int {
	all := 1
	for range length {
		all *= many
	}
	return all
}

func TestAllSmallWorlds(t *testing.T) {
	met := 0
	for _, size := range [][3]int{{1, 1, 4}, {1, 2, 3}, {2, 1, 3}, {2, 2, 3}, {3, 2, 2}, {3, 3, 2}, {2, 3, 2}, {4, 3, 1}} {
		rooms, players, items := size[0], size[1], size[2]
		places := placesOf(rooms, players, items)
		for n := range power(rooms, players) {
			for m := range power(len(places), items) {
				var where []api.Place
				for _, digit := range digits(m, len(places), items) {
					where = append(where, places[digit])
				}
				w := with(sized(rooms, digits(n, rooms, players)...), where...)
				if !desc.Right(w) {
					continue
				}
				met++
				checkWorld(t, w)
				checkJustOnce(t, w)
			}
		}
	}
	if met < 3000 {
		t.Errorf("only %d worlds", met)
	}
}

// pick is one of so many, by a rule without much of an order.
func pick(seed *uint32, many int) int {
	*seed = *seed*1664525 + 1013904223
	return int(*seed>>8) % many
}

// largeWorld is a right world of up to eight rooms, six players and sixteen items; each box may be of a lower number than what is in it, or of a higher one.
func largeWorld(seed *uint32) api.World {
	rooms, players, items := 1+pick(seed, 8), 1+pick(seed, 6), pick(seed, 17)
	w := sized(rooms, make([]int, players)...)
	for p := range players {
		w.At[p] = pick(seed, rooms)
		w.Coins[p] = []int{0, 3, pick(seed, maxCoins), maxCoins}[pick(seed, 4)]
	}
	order := make([]int, items)
	for n := range order {
		other := pick(seed, n+1)
		order[n] = order[other]
		order[other] = n
	}
	w = with(w, make([]api.Place, items)...)
	depths := make([]int, items)
	for n, item := range order {
		at := placesOf(rooms, players, 0)[pick(seed, rooms+players)]
		if n > 0 {
			box := order[pick(seed, n)]
			if depths[box] < 4 && pick(seed, 3) > 0 {
				at, depths[item] = inBox(box), depths[box]+1
			}
		}
		w.Where[item] = at
	}
	return w
}

func TestWorldsAsLargeAsMayBe(t *testing.T) {
	seed := uint32(12)
	for range 1500 {
		w := largeWorld(&seed)
		checkRight(t, w)
		checkWorld(t, w)
		checkJustOnce(t, w)
	}
}

func TestEachAnswerIsReadOfItsTextAsItWas(t *testing.T) {
	seed := uint32(5)
	for range 300 {
		w := largeWorld(&seed)
		for p := range w.At {
			for _, r := range []api.Reply{Look(w, p), Own(w, p)} {
				line, err := reply.Put(r)
				got, errGet := reply.Get(line)
				if err != api.OK || errGet != api.OK || !reply.Same(got, r) {
					t.Errorf("%+v is read of %q, error %d, as %+v, error %d", r, line, err, got, errGet)
				}
			}
		}
	}
}

// P12.3

// roomy is a list like this one, with room behind its length in which something stands.
func roomy[T any](list []T, behind T) []T {
	return append(slices.Clone(list), behind, behind, behind)[:len(list)]
}

// whole is a list with the room behind its length.
func whole[T any](list []T) []T {
	return list[:cap(list)]
}

// fill writes all over a list, the room behind its length included.
func fill[T any](list []T, with T) {
	for i := range whole(list) {
		whole(list)[i] = with
	}
}

// roomyWorld is a world with such room behind all its lists; what stands there would tell, if it were looked at.
func roomyWorld(w api.World) api.World {
	d := &w.Desc
	d.Exits = roomy(d.Exits, [4]int{1, 1, 1, 1})
	d.Players, d.Coins, d.Items, d.Boxes = roomy(d.Players, 2), roomy(d.Coins, 7), roomy(d.Items, 2), roomy(d.Boxes, true)
	w.At, w.Coins, w.Where = roomy(w.At, 2), roomy(w.Coins, 7), roomy(w.Where, inRoom(2))
	return w
}

// worldText is all that a world's lists have, the room behind their lengths included.
func worldText(w api.World) string {
	lengths := text(w)
	d := &w.Desc
	d.Exits, d.Players, d.Coins, d.Items, d.Boxes = whole(d.Exits), whole(d.Players), whole(d.Coins), whole(d.Items), whole(d.Boxes)
	w.At, w.Coins, w.Where = whole(w.At), whole(w.Coins), whole(w.Where)
	return lengths + text(w)
}

// replyText is all that an answer's lists have, the room behind their lengths included.
func replyText(r api.Reply) string {
	lengths := text(r)
	r.Players, r.Items = whole(r.Players), whole(r.Items)
	return lengths + text(r)
}

// spoil writes all over an answer's lists.
func spoil(r api.Reply) {
	fill(r.Players, -9)
	fill(r.Items, api.Seen{Item: -8, At: api.Place{Kind: -7, Id: -6}})
}

// spoilWorld writes all over a world's lists.
func spoilWorld(w api.World) {
	fill(w.Desc.Exits, [4]int{-9, -9, -9, -9})
	fill(w.Desc.Players, -8)
	fill(w.Desc.Coins, -7)
	fill(w.Desc.Items, -6)
	fill(w.Desc.Boxes, false)
	fill(w.At, -5)
	fill(w.Coins, -4)
	fill(w.Where, api.Place{Kind: -3, Id: -2})
}

// everyAnswer are the answers of all calls, each with Players or Items of some kind; Present's list stands in an answer of its own.
func everyAnswer(w api.World) []api.Reply {
	var all []api.Reply
	for p := range w.At {
		all = append(all, Look(w, p), Own(w, p), api.Reply{Players: Present(w, w.At[p])})
	}
	for room := range w.Desc.Exits {
		all = append(all, api.Reply{Players: Present(w, room)})
	}
	return all
}

func TestWhatIsHandedInStays(t *testing.T) {
	w := roomyWorld(wide())
	checkRight(t, w)
	want := worldText(w)
	for n := -1; n <= 6; n++ {
		Present(w, n)
		Look(w, n)
		Own(w, n)
		if got := worldText(w); got != want {
			t.Fatalf("by calls of %d the world became %s, and was %s", n, got, want)
		}
	}
}

func TestWhatStandsBehindTheListsIsNotLookedAt(t *testing.T) {
	w := roomyWorld(wide())
	w.At, w.Coins, w.Desc.Players, w.Desc.Coins = w.At[:4], w.Coins[:4], w.Desc.Players[:4], w.Desc.Coins[:4]
	w.Where, w.Desc.Items, w.Desc.Boxes = w.Where[:15], w.Desc.Items[:15], w.Desc.Boxes[:15]
	checkRight(t, w)
	checkPresent(t, w, 2, 1, 3)
	checkPresent(t, w, 3, 0)
	checkLook(t, w, 1, 2, list(1, 3), 0, 1, 2, 3, 12, 14)
	checkLook(t, w, 0, 3, list(0), 10)
	checkOwn(t, w, 1, 17, 4, 5, 13)
	if got := Look(w, 4); !reply.Same(got, api.Reply{}) {
		t.Errorf("Look of the player behind the list is %+v", got)
	}
	if got := Own(w, 4); !reply.Same(got, api.Reply{}) {
		t.Errorf("Own of the player behind the list is %+v", got)
	}
}

func TestWhatIsAnsweredIsNewMemory(t *testing.T) {
	w := roomyWorld(wide())
	want := worldText(w)
	all := append(everyAnswer(w), everyAnswer(w)...) // each of them twice
	var before []string
	for _, r := range all {
		before = append(before, replyText(r))
	}
	for n, r := range all {
		if got := replyText(r); got != before[n] {
			t.Errorf("by writing into another answer the answer %d became %s, and was %s", n, got, before[n])
		}
		spoil(r)
		if got := worldText(w); got != want {
			t.Fatalf("by writing into the answer %d the world became %s, and was %s", n, got, want)
		}
	}
}

func TestListsOfOneAnswerShareNone(t *testing.T) {
	w := wide()
	for p := range w.At {
		r, want := Look(w, p), Look(w, p)
		fill(r.Players, -9)
		if !slices.Equal(r.Items, want.Items) {
			t.Errorf("by writing into Players Items became %v", r.Items)
		}
		r = Look(w, p)
		fill(r.Items, api.Seen{Item: -9})
		if !slices.Equal(r.Players, want.Players) {
			t.Errorf("by writing into Items Players became %v", r.Players)
		}
	}
}

func TestWhatIsHandedInIsNotKept(t *testing.T) {
	w := roomyWorld(wide())
	all := everyAnswer(w)
	var before []string
	for _, r := range all {
		before = append(before, replyText(r))
	}
	spoilWorld(w)
	for n, r := range all {
		if got := replyText(r); got != before[n] {
			t.Errorf("by writing into the world the answer %d became %s, and was %s", n, got, before[n])
		}
	}
}

func TestCallsHangOnTheirArgumentsAlone(t *testing.T) {
	first, second := wide(), with(sized(2, 1, 0), inRoom(1), inPlayer(1))
	want := text(everyAnswer(first))
	everyAnswer(second)
	if got := text(everyAnswer(first)); got != want {
		t.Errorf("answers became %s, and were %s", got, want)
	}
	if got := text(everyAnswer(roomyWorld(first))); got != want {
		t.Errorf("with room behind the lists answers are %s, and were %s", got, want)
	}
}

func TestEmptyListsAndNilAreOne(t *testing.T) {
	w := sized(2, 1)
	w.Desc.Items, w.Desc.Boxes, w.Where = []int{}, []bool{}, []api.Place{}
	checkRight(t, w)
	checkLook(t, w, 0, 1, list(0))
	checkOwn(t, w, 0, 10)
	w.Desc.Items, w.Desc.Boxes, w.Where = nil, nil, nil
	checkRight(t, w)
	checkLook(t, w, 0, 1, list(0))
	checkOwn(t, w, 0, 10)
}

// Whatever is handed in, calls end, and none panics.

// wrongWorlds are worlds that aren't right, for the most part.
func wrongWorlds(numbers []int) []api.World {
	odd, lost, few, poor, bare, many := wide(), wide(), wide(), wide(), wide(), wide()
	odd.At = []int{-1, 5, math.MaxInt, math.MinInt, 0}
	odd.Coins = []int{-1, math.MaxInt, math.MinInt, maxCoins + 1, 0}
	for item := range lost.Where {
		lost.Where[item] = api.Place{Kind: numbers[item%len(numbers)], Id: numbers[len(numbers)-1-item%len(numbers)]}
	}
	few.At = few.At[:2]
	poor.Coins = poor.Coins[:1]
	bare.Where = nil
	many.At, many.Coins, many.Where = make([]int, 40), make([]int, 40), slices.Repeat([]api.Place{inRoom(0), inPlayer(0), inBox(1)}, 20)
	knot := with(sized(1, 0, 0), inBox(1), inBox(0), inBox(2), inBox(math.MaxInt), inPlayer(-1), inPlayer(7), inPlayer(0), inRoom(0))
	return []api.World{{}, {At: []int{0, 0}}, {Coins: []int{5}}, {Desc: wide().Desc}, {Where: []api.Place{{}, {Kind: 1}}}, wide(), odd, lost, few, poor, bare, many, knot}
}

func TestWrongArgumentsEndAndDoNotPanic(t *testing.T) {
	numbers := []int{math.MinInt, -1 << 32, -1, 0, 1, 2, 3, 4, 5, 6, 15, 16, 39, 40, 1 << 32, math.MaxInt}
	for _, w := range wrongWorlds(numbers) {
		want := text(w)
		for _, n := range numbers {
			Present(w, n)
			Look(w, n)
			Own(w, n)
		}
		if got := text(w); got != want {
			t.Errorf("the world became %s, and was %s", got, want)
		}
	}
}

func TestRoomsAndPlayersThatThereAreNot(t *testing.T) {
	w := wide()
	for _, n := range []int{math.MinInt, -1 << 32, -2, -1, 5, 6, 16, 1 << 32, math.MaxInt} {
		checkPresent(t, w, n)
		if got := Look(w, n); !reply.Same(got, api.Reply{}) {
			t.Errorf("Look of %d is %+v", n, got)
		}
		if got := Own(w, n); !reply.Same(got, api.Reply{}) {
			t.Errorf("Own of %d is %+v", n, got)
		}
	}
	checkPresent(t, w, 4)
}

// The chapter's example, and those of the whole that speak of what is seen.

// checkText holds an answer's text against this one.
func checkText(t *testing.T, r api.Reply, want string) {
	t.Helper()
	if got, err := reply.Put(r); got != want || err != api.OK {
		t.Errorf("%+v is %q, error %d, not %q", r, got, err, want)
	}
}

// exampleWorld is the world of the ten examples of the whole.
func exampleWorld(t *testing.T) api.World {
	t.Helper()
	w, err := desc.New(api.Desc{
		Exits:   [][4]int{{1, -1, -1, -1}, {-1, -1, 0, -1}},
		Players: []int{0, 0}, Coins: []int{5, 2},
		Items: []int{0, 0}, Boxes: []bool{true, false},
		Room: 2, Player: 2, Box: 1,
	})
	if err != api.OK {
		t.Fatal(err)
	}
	return w
}

func TestAPlayerAloneInAnEmptyRoomSeesOneself(t *testing.T) {
	w := exampleWorld(t)
	checkText(t, Look(w, 1), "look 0 players 0 1 items 0 in 0 1 in 0")
	w, _, err := ways.Push(w, 0, 1, api.North)
	if err != api.OK {
		t.Fatal(err)
	}
	checkText(t, Look(w, 1), "look 1 players 1 items")
	checkText(t, Look(w, 0), "look 0 players 0 items 0 in 0 1 in 0")
}

func TestWhatIsGotAndPutIsOnesOwn(t *testing.T) {
	w := exampleWorld(t)
	checkText(t, Own(w, 0), "own 5 items")
	w, err := hold.Get(w, 0, 0)
	if err != api.OK {
		t.Fatal(err)
	}
	checkText(t, Look(w, 1), "look 0 players 0 1 items 1 in 0")
	w, err = hold.Get(w, 0, 1)
	if err != api.OK {
		t.Fatal(err)
	}
	w, err = boxes.Put(w, 0, 1, 0)
	if err != api.OK {
		t.Fatal(err)
	}
	checkText(t, Own(w, 0), "own 5 items 0 with 0 1 box 0")
	checkText(t, Own(w, 1), "own 2 items")
	checkText(t, Look(w, 1), "look 0 players 0 1 items")
	w, err = hold.Drop(w, 0, 0)
	if err != api.OK {
		t.Fatal(err)
	}
	checkText(t, Look(w, 1), "look 0 players 0 1 items 0 in 0 1 box 0")
	checkText(t, Own(w, 0), "own 5 items")
}
