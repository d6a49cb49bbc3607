package gifts

import (
	"fmt"
	"math"
	"slices"
	"testing"

	"innkeep/api"
	"innkeep/cmd"
	"innkeep/desc"
)

const (
	errNone  = api.ErrNone
	errAway  = api.ErrAway
	errFull  = api.ErrFull
	errPoor  = api.ErrPoor
	errRich  = api.ErrRich
	errSelf  = api.ErrSelf
	errTwice = api.ErrTwice
)

// maxCoins is as many coins as one may have.
const maxCoins = 1 << 30

func inRoom(id int) api.Place   { return api.Place{Kind: 0, Id: id} }
func inPlayer(id int) api.Place { return api.Place{Kind: 1, Id: id} }
func inBox(id int) api.Place    { return api.Place{Kind: 2, Id: id} }

// text is all that a value has; nil and empty lists are one in it.
func text(x any) string {
	return fmt.Sprintf("%+v", x)
}

// sized is a world of so many rooms, whose players are in these rooms, and began in others, where there are such; there are no items yet, and nothing gets full soon.
func sized(rooms int, at ...int) api.World {
	w := api.World{Desc: api.Desc{Exits: make([][4]int, rooms), Room: 64, Player: 64, Box: 64}, At: at}
	for p, room := range at {
		w.Desc.Players = append(w.Desc.Players, (room+1)%rooms)
		w.Desc.Coins = append(w.Desc.Coins, 1000+p)
		w.Coins = append(w.Coins, 10+7*p)
	}
	return w
}

// with is a world like w with items more, all of them boxes, at these places; they began in one room after the other.
func with(w api.World, where ...api.Place) api.World {
	w = desc.Copy(w)
	for _, at := range where {
		w.Desc.Items = append(w.Desc.Items, len(w.Where)%len(w.Desc.Exits))
		w.Desc.Boxes = append(w.Desc.Boxes, true)
		w.Where = append(w.Where, at)
	}
	return w
}

// capped is a world like w, in new memory, in which players may hold so much.
func capped(w api.World, player int) api.World {
	next := desc.Copy(w)
	next.Desc.Player = player
	return next
}

// paid is a world like w, in new memory, in which the first players have so many coins.
func paid(w api.World, coins ...int) api.World {
	next := desc.Copy(w)
	copy(next.Coins, coins)
	return next
}

// wide is a right world of four rooms, four players and sixteen items. The players 0 and 2 are in the room 1, together, with 10 and 24 coins, and no player is in the room of its own number, but for the last one.
func wide() api.World {
	w := with(sized(4, 1, 0, 1, 3),
		inPlayer(0), // 0: the first item, with others in it
		inBox(0),    // 1
		inBox(1),    // 2
		inRoom(1),   // 3: on the floor where the players 0 and 2 are, with others in it
		inBox(3),    // 4
		inRoom(0),   // 5: on another floor
		inPlayer(2), // 6: with the player 2, with others in it
		inBox(6),    // 7
		inPlayer(1), // 8: with a player elsewhere, with others in it
		inBox(8),    // 9
		inPlayer(0), // 10: no box
		inPlayer(2), // 11: no box
		inRoom(3),   // 12
		inPlayer(2), // 13
		inPlayer(3), // 14
		inPlayer(0), // 15: the last item
	)
	w.Desc.Boxes[10], w.Desc.Boxes[11] = false, false
	return w
}

// list is one side of a trade.
func list(items ...int) []int {
	return items
}

// swap is a trade with this player.
func swap(who int, gives []int, pay int, wants []int, fee int) api.Cmd {
	return api.Cmd{Kind: api.Trade, Who: who, Gives: gives, Pay: pay, Wants: wants, Fee: fee}
}

// back is the trade by which Who undoes p's: what p gave is with Who by then.
func back(p int, c api.Cmd) api.Cmd {
	return swap(p, c.Gives, c.Pay, c.Wants, c.Fee)
}

// mirrored is the trade by which Who does the same as p by its own.
func mirrored(p int, c api.Cmd) api.Cmd {
	return swap(p, c.Wants, c.Fee, c.Gives, c.Pay)
}

// checkRight sees to it that a test speaks of a right world.
func checkRight(t *testing.T, w api.World) {
	t.Helper()
	if !desc.Right(w) {
		t.Fatalf("%+v isn't right", w)
	}
}

// traded is the world that p's trade makes of w.
func traded(w api.World, p int, c api.Cmd) api.World {
	next := desc.Copy(w)
	for _, item := range c.Gives {
		next.Where[item] = inPlayer(c.Who)
	}
	for _, item := range c.Wants {
		next.Where[item] = inPlayer(p)
	}
	next.Coins[p] += c.Fee - c.Pay
	next.Coins[c.Who] += c.Pay - c.Fee
	return next
}

// check holds an answer against the world that p's trade makes, or against w and an error.
func check(t *testing.T, call string, w api.World, p int, c api.Cmd, wantErr api.Errno, got api.World, err api.Errno) {
	t.Helper()
	want := w
	if wantErr == api.OK {
		want = traded(w, p, c)
	}
	if err != wantErr || !desc.Same(got, want) {
		t.Errorf("%s by %d: %+v answers %v, %v, %d, not %v, %v, %d, of %+v", call, p, c, got.Where, got.Coins, err, want.Where, want.Coins, wantErr, w)
	}
	if err == api.OK && !desc.Right(got) {
		t.Errorf("%s by %d: %+v makes %+v, which isn't right, of %+v", call, p, c, got, w)
	}
	if sum(got) != sum(w) {
		t.Errorf("%s by %d: %+v makes %v coins of %v", call, p, c, got.Coins, w.Coins)
	}
}

// sum is that of all coins.
func sum(w api.World) int {
	all := 0
	for _, n := range w.Coins {
		all += n
	}
	return all
}

func checkGive(t *testing.T, w api.World, p, item, q int, wantErr api.Errno) {
	t.Helper()
	got, err := Give(w, p, item, q)
	check(t, "Give", w, p, swap(q, list(item), 0, nil, 0), wantErr, got, err)
}

// checkTrade trades, too, with the lists the other way round, which is the same.
func checkTrade(t *testing.T, w api.World, p int, c api.Cmd, wantErr api.Errno) {
	t.Helper()
	got, err := Trade(w, p, c)
	check(t, "Trade", w, p, c, wantErr, got, err)
	if len(c.Gives) > 1 || len(c.Wants) > 1 {
		c.Gives, c.Wants = slices.Clone(c.Gives), slices.Clone(c.Wants)
		slices.Reverse(c.Gives)
		slices.Reverse(c.Wants)
		got, err = Trade(w, p, c)
		check(t, "Trade", w, p, c, wantErr, got, err)
	}
}

// far are numbers of which there is nothing, where there are so many; all but those below 0 and just past the last one are far from them.
func far(many int) []int {
	return []int{math.MinInt, -1 << 32, -many - 1, -2, -1, many, many + 1, 17, maxCoins, 1 << 32, math.MaxInt}
}

// P11.1

func TestGive(t *testing.T) {
	w := wide()
	checkRight(t, w)
	for _, x := range []struct {
		why        string
		p, item, q int
		want       api.Errno
	}{
		{"the first item, a box with others in it", 0, 0, 2, api.OK},
		{"the last item", 0, 15, 2, api.OK},
		{"what is no box", 0, 10, 2, api.OK},
		{"the other way round", 2, 6, 0, api.OK},
		{"the other way round, what is no box", 2, 11, 0, api.OK},
		{"to a player in another room", 0, 0, 1, errAway},
		{"to another one in another room", 0, 0, 3, errAway},
		{"by one of another room", 1, 8, 0, errAway},
		{"by another one of another room", 3, 14, 2, errAway},
		{"what is on the floor here", 0, 3, 2, errAway},
		{"what is in a box on the floor here", 0, 4, 2, errAway},
		{"what is on another floor", 0, 5, 2, errAway},
		{"what is in a box that one has", 0, 1, 2, errAway},
		{"what is in a box in that", 0, 2, 2, errAway},
		{"what the other one has", 0, 6, 2, errAway},
		{"what is in a box that the other one has", 0, 7, 2, errAway},
		{"what one elsewhere has", 0, 8, 2, errAway},
		{"what is in a box that one elsewhere has", 0, 9, 2, errAway},
		{"what is on the floor where the number is the player's", 0, 5, 2, errAway},
		{"to oneself", 0, 0, 0, errSelf},
		{"to oneself, the other one", 2, 6, 2, errSelf},
		{"an item below the first one", 0, -1, 2, errNone},
		{"an item just past the last one", 0, 16, 2, errNone},
		{"to a player below the first one", 0, 0, -1, errNone},
		{"to a player just past the last one", 0, 0, 4, errNone},
		{"neither item nor player", 0, 16, 4, errNone},
	} {
		if _, err := Give(w, x.p, x.item, x.q); err != x.want {
			t.Errorf("%s: error %d", x.why, err)
		}
		checkGive(t, w, x.p, x.item, x.q, x.want)
	}
}

func TestGiveOfEachItemByEachPlayerToEachPlayer(t *testing.T) {
	for items := 1; items <= 16; items++ {
		for players := 1; players <= 6; players++ {
			for p := range players {
				w := with(sized(2, make([]int, players)...), slices.Repeat([]api.Place{inPlayer(p)}, items)...)
				checkRight(t, w)
				for q := range players {
					wantErr := api.OK
					if q == p {
						wantErr = errSelf
					}
					for item := range items {
						checkGive(t, w, p, item, q, wantErr)
					}
				}
			}
		}
	}
}

func TestGiveOfItemsAndPlayersThatThereAreNot(t *testing.T) {
	for items := range 17 {
		for players := 1; players <= 6; players++ {
			w := with(sized(2, make([]int, players)...), slices.Repeat([]api.Place{inPlayer(0)}, items)...)
			checkRight(t, w)
			for _, number := range far(items) {
				for q := range players {
					if number < 0 || number >= items {
						checkGive(t, w, 0, number, q, errNone)
					}
				}
			}
			for _, number := range far(players) {
				for item := range items {
					checkGive(t, w, 0, item, number, errNone)
				}
			}
		}
	}
}

func TestGiveGoesByWherePlayersAre(t *testing.T) {
	w := with(sized(3, 1, 1, 2), inPlayer(0))
	w.Desc.Players = []int{1, 2, 1} // where they began
	w.Desc.Items = []int{2}
	checkRight(t, w)
	checkGive(t, w, 0, 0, 1, api.OK)
	checkGive(t, w, 0, 0, 2, errAway)
}

func TestGiveToPlayersWhoGetFull(t *testing.T) {
	for most := 8; most <= 16; most++ {
		w := capped(with(sized(1, 0, 0, 0), append(slices.Repeat([]api.Place{inPlayer(0)}, 8), slices.Repeat([]api.Place{inPlayer(1)}, 8)...)...), most)
		checkRight(t, w)
		for item := range 8 { // up to the last that it may hold, and on
			wantErr := api.OK
			if item+8 >= most {
				wantErr = errFull
			}
			checkGive(t, w, 0, item, 1, wantErr)
			checkGive(t, w, 0, item, 2, api.OK) // another one isn't full
			if next, err := Give(w, 0, item, 1); err == api.OK {
				w = next
			}
		}
	}
}

func TestGiveByOneWhoMayHoldNoMore(t *testing.T) {
	w := capped(with(sized(1, 0, 0), inPlayer(0), inPlayer(0), inPlayer(1)), 2)
	checkRight(t, w)
	checkGive(t, w, 0, 0, 1, api.OK)
	checkGive(t, w, 1, 2, 0, errFull)
	w, _ = Give(w, 0, 0, 1)
	checkGive(t, w, 0, 1, 1, errFull)
	checkGive(t, w, 1, 2, 0, api.OK)
}

func TestGiveAsksOnlyHowMuchThisPlayerHasDirectly(t *testing.T) {
	w := capped(with(sized(1, 0, 0), inPlayer(0), inBox(0), inPlayer(1), inBox(2), inBox(2), inBox(4)), 2)
	checkRight(t, w)
	checkGive(t, w, 0, 0, 1, api.OK)
	checkGive(t, w, 1, 2, 0, api.OK)
}

func TestGiftsAskNothingOfRoomsAndBoxes(t *testing.T) {
	w := with(sized(3, 1, 1), inPlayer(0), inBox(0), inRoom(1))
	w.Desc.Room, w.Desc.Box = 1, 1
	checkRight(t, w)
	checkGive(t, w, 0, 0, 1, api.OK)
	checkTrade(t, w, 1, swap(0, nil, 3, list(0), 0), api.OK)
	w = with(sized(1, 0, 0), inPlayer(0))
	w.Desc.Box = 0
	w.Desc.Room = 1
	checkRight(t, w)
	checkGive(t, w, 0, 0, 1, api.OK)
	checkTrade(t, w, 0, swap(1, list(0), 0, nil, 1), api.OK)
}

func TestGiveAsksNothingOfCoins(t *testing.T) {
	for _, coins := range [][]int{{0, 0}, {maxCoins, maxCoins}, {0, maxCoins}, {maxCoins, 0}} {
		w := paid(with(sized(1, 0, 0), inPlayer(0)), coins...)
		checkRight(t, w)
		checkGive(t, w, 0, 0, 1, api.OK)
	}
}

func TestTheFirstOfSeveralErrorsOfGive(t *testing.T) {
	w := capped(wide(), 3) // the players 0 and 2 may hold no more
	w.Where[13], w.Where[14] = inPlayer(1), inPlayer(1)
	checkRight(t, w)
	checkGive(t, w, 0, 16, 0, errNone) // and oneself
	checkGive(t, w, 0, -1, 0, errNone)
	checkGive(t, w, 0, -1, 1, errNone)  // and away, and full
	checkGive(t, w, 0, 3, 4, errNone)   // and the item is on the floor
	checkGive(t, w, 0, 11, -1, errNone) // and another one has it

	checkGive(t, w, 0, 3, 0, errSelf)  // and the item is on the floor
	checkGive(t, w, 0, 11, 0, errSelf) // and another one has it
	checkGive(t, w, 1, 8, 1, errSelf)  // and one may hold no more

	checkGive(t, w, 0, 0, 1, errAway) // another room, and the player is full
	checkGive(t, w, 0, 3, 1, errAway) // and the item is on the floor
	w.At[1] = 1
	checkGive(t, w, 0, 3, 1, errAway) // the item is on the floor, and the player is full
	checkGive(t, w, 0, 8, 1, errAway) // the player has it, and is full
	checkGive(t, w, 0, 0, 1, errFull) // this alone
}

// P11.2

func TestTrade(t *testing.T) {
	w := wide()
	checkRight(t, w)
	for _, x := range []struct {
		why  string
		p    int
		c    api.Cmd
		want api.Errno
	}{
		{"nothing for nothing", 0, swap(2, nil, 0, nil, 0), api.OK},
		{"an item for nothing", 0, swap(2, list(0), 0, nil, 0), api.OK},
		{"nothing for an item", 0, swap(2, nil, 0, list(6), 0), api.OK},
		{"an item for an item", 0, swap(2, list(10), 0, list(11), 0), api.OK},
		{"boxes, with others in them", 0, swap(2, list(0), 0, list(6), 0), api.OK},
		{"the first item and the last, for all that the other one has", 0, swap(2, list(0, 15), 0, list(6, 11, 13), 0), api.OK},
		{"all for all", 0, swap(2, list(15, 0, 10), 0, list(13, 11, 6), 0), api.OK},
		{"the other way round", 2, swap(0, list(13, 6), 0, list(0, 15, 10), 0), api.OK},
		{"an item for coins", 0, swap(2, list(0), 0, nil, 5), api.OK},
		{"coins for an item", 0, swap(2, nil, 5, list(6), 0), api.OK},
		{"coins for nothing", 0, swap(2, nil, 5, nil, 0), api.OK},
		{"nothing for coins", 0, swap(2, nil, 0, nil, 5), api.OK},
		{"coins for coins", 0, swap(2, nil, 3, nil, 20), api.OK},
		{"as many coins for coins", 0, swap(2, nil, 7, nil, 7), api.OK},
		{"items and coins for items and coins", 0, swap(2, list(0, 10), 10, list(11), 24), api.OK},
		{"the other way round", 2, swap(0, list(6), 24, list(15), 10), api.OK},
		{"with oneself, nothing for nothing", 0, swap(0, nil, 0, nil, 0), errSelf},
		{"with oneself, what one has", 2, swap(2, list(6), 0, list(11), 0), errSelf},
		{"with one in another room, nothing for nothing", 0, swap(1, nil, 0, nil, 0), errAway},
		{"with one in another room, what both have", 0, swap(1, list(0), 0, list(8), 0), errAway},
		{"with another one in another room", 1, swap(0, nil, 0, nil, 0), errAway},
		{"with yet another one in another room", 2, swap(3, list(6), 0, list(14), 0), errAway},
		{"with one below the first one", 0, swap(-1, nil, 0, nil, 0), errNone},
		{"with one just past the last one", 0, swap(4, nil, 0, nil, 0), errNone},
		{"an item for more coins than the other one has", 2, swap(0, list(6), 0, nil, 11), errPoor},
	} {
		if _, err := Trade(w, x.p, x.c); err != x.want {
			t.Errorf("%s: error %d", x.why, err)
		}
		checkTrade(t, w, x.p, x.c, x.want)
	}
}

func TestTradeOfItemsThatAreElsewhere(t *testing.T) {
	w := wide()
	checkRight(t, w)
	for item, at := range w.Where {
		wantGives, wantWants := errAway, errAway
		if at == inPlayer(0) {
			wantGives = api.OK
		}
		if at == inPlayer(2) {
			wantWants = api.OK
		}
		checkTrade(t, w, 0, swap(2, list(item), 0, nil, 0), wantGives)
		checkTrade(t, w, 0, swap(2, nil, 0, list(item), 0), wantWants)
		checkTrade(t, w, 0, swap(2, list(item), 1, nil, 2), wantGives)
		checkTrade(t, w, 0, swap(2, nil, 1, list(item), 2), wantWants)
		if item != 0 && item != 6 { // with others that are where they ought to be, ahead of it and behind it
			checkTrade(t, w, 0, swap(2, list(0, item), 0, nil, 0), wantGives)
			checkTrade(t, w, 0, swap(2, nil, 0, list(6, item), 0), wantWants)
			checkTrade(t, w, 0, swap(2, list(0, item), 0, list(6), 0), wantGives)
			checkTrade(t, w, 0, swap(2, list(0), 0, list(6, item), 0), wantWants)
		}
	}
	for _, in := range []int{1, 2, 3, 4, 5, 7, 8, 9, 12, 14} { // elsewhere for both
		checkTrade(t, w, 0, swap(2, list(in), 0, list(6), 0), errAway)
		checkTrade(t, w, 0, swap(2, list(0), 0, list(in), 0), errAway)
	}
	checkTrade(t, w, 0, swap(2, list(6), 0, list(0), 0), errAway) // each is with the other one
}

func TestTradeOfEachItemWithEachPlayer(t *testing.T) {
	for players := 2; players <= 6; players++ {
		for p := range players {
			for who := range players {
				w := with(sized(2, make([]int, players)...), slices.Repeat([]api.Place{inPlayer(p), inPlayer(who)}, 8)...)
				checkRight(t, w)
				for n := range 8 {
					wantErr := api.OK
					if p == who {
						wantErr = errSelf
					}
					checkTrade(t, w, p, swap(who, list(2*n), 1, list(2*n+1), 2), wantErr)
					checkTrade(t, w, p, swap(who, list(2*n), 0, nil, 0), wantErr)
					checkTrade(t, w, p, swap(who, nil, 0, list(2*n+1), 0), wantErr)
				}
			}
		}
	}
}

func TestTradeOfAllItemsThatThereMayBe(t *testing.T) {
	all := make([]int, 16)
	for item := range all {
		all[item] = item
	}
	for mine := range 17 { // so many go one way, all others the other way
		w := with(sized(1, 0, 0), append(slices.Repeat([]api.Place{inPlayer(0)}, mine), slices.Repeat([]api.Place{inPlayer(1)}, 16-mine)...)...)
		for most := max(mine, 16-mine); most <= 16; most++ {
			w := capped(w, most)
			checkRight(t, w)
			checkTrade(t, w, 0, swap(1, all[:mine], 1, all[mine:], 0), api.OK)
			checkTrade(t, w, 1, swap(0, all[mine:], 1, all[:mine], 0), api.OK)
			checkTrade(t, w, 0, swap(1, all[mine:], 1, all[:mine], 0), errAway)
		}
	}
}

func TestTradeOfItemsAndPlayersThatThereAreNot(t *testing.T) {
	for players := 2; players <= 6; players++ {
		w := with(sized(2, make([]int, players)...), inPlayer(0), inPlayer(1), inPlayer(0), inPlayer(1))
		checkRight(t, w)
		for _, number := range far(players) {
			checkTrade(t, w, 0, swap(number, nil, 0, nil, 0), errNone)
			checkTrade(t, w, 0, swap(number, list(0), 0, list(1), 0), errNone)
		}
		for _, number := range far(4) {
			checkTrade(t, w, 0, swap(1, list(number), 0, nil, 0), errNone)
			checkTrade(t, w, 0, swap(1, nil, 0, list(number), 0), errNone)
			checkTrade(t, w, 0, swap(1, list(0, number), 0, list(1), 0), errNone)
			checkTrade(t, w, 0, swap(1, list(0, number, 2), 0, list(1), 0), errNone)
			checkTrade(t, w, 0, swap(1, list(0), 0, list(1, number), 0), errNone)
			checkTrade(t, w, 0, swap(1, list(0), 0, list(1, number, 3), 0), errNone)
			checkTrade(t, w, 0, swap(1, list(number), 0, list(number), 0), errNone)
		}
	}
	none := sized(1, 0, 0)
	checkRight(t, none)
	checkTrade(t, none, 0, swap(1, list(0), 0, nil, 0), errNone)
	checkTrade(t, none, 0, swap(1, nil, 0, list(0), 0), errNone)
	checkTrade(t, none, 0, swap(1, nil, 4, nil, 5), api.OK)
}

func TestTradeGoesByWherePlayersAre(t *testing.T) {
	w := sized(3, 1, 1, 2)
	w.Desc.Players = []int{1, 2, 1} // where they began
	checkRight(t, w)
	checkTrade(t, w, 0, swap(1, nil, 1, nil, 0), api.OK)
	checkTrade(t, w, 0, swap(2, nil, 1, nil, 0), errAway)
}

func TestTradeOfItemsThatStandTwice(t *testing.T) {
	w := with(sized(1, 0, 0), slices.Repeat([]api.Place{inPlayer(0), inPlayer(1)}, 8)...) // the even ones with the player 0
	checkRight(t, w)
	for item := range w.Where {
		other := (item + 2) % 16
		third := (item + 4) % 16
		for _, twice := range [][]int{{item, item}, {item, other, item}, {other, item, item}, {item, item, other}, {other, item, third, item}, {item, item, item}} {
			checkTrade(t, w, 0, swap(1, twice, 0, nil, 0), errTwice)
			checkTrade(t, w, 0, swap(1, nil, 0, twice, 0), errTwice)
			checkTrade(t, w, 0, swap(1, twice, 0, twice, 0), errTwice)
		}
		checkTrade(t, w, 0, swap(1, list(item), 0, list(item), 0), errTwice)
		checkTrade(t, w, 0, swap(1, list(other, item), 0, list(item), 0), errTwice)
		checkTrade(t, w, 0, swap(1, list(item), 0, list(third, item), 0), errTwice)
		checkTrade(t, w, 0, swap(1, list(item, other), 0, list(third, item), 0), errTwice)
		checkTrade(t, w, 0, swap(1, list(item/2*2), 0, list(item/2*2+1), 0), api.OK) // nothing is kept from call to call
	}
	full := slices.Repeat([]int{0}, 16)
	checkTrade(t, w, 0, swap(1, full, 0, nil, 0), errTwice)
	checkTrade(t, w, 0, swap(1, full, 0, full, 0), errTwice)
}

func TestTradeByPlayersWhoGetFull(t *testing.T) {
	for mine := range 5 {
		for theirs := range 5 {
			w := with(sized(1, 0, 0), append(slices.Repeat([]api.Place{inPlayer(0)}, mine), slices.Repeat([]api.Place{inPlayer(1)}, theirs)...)...)
			for most := max(mine, theirs); most <= 9; most++ {
				w := capped(w, most)
				checkRight(t, w)
				for gives := range mine + 1 {
					for wants := range theirs + 1 {
						wantErr := api.OK
						if mine-gives+wants > most || theirs-wants+gives > most {
							wantErr = errFull
						}
						c := swap(1, []int{0, 1, 2, 3}[:gives], 2, []int{mine, mine + 1, mine + 2, mine + 3}[:wants], 1)
						checkTrade(t, w, 0, c, wantErr)
						checkTrade(t, w, 1, mirrored(0, c), wantErr)
					}
				}
			}
		}
	}
}

func TestTradeByPlayersWhoMayHoldOneMoreAndNoMore(t *testing.T) {
	w := capped(with(sized(1, 0, 0), inPlayer(0), inPlayer(0), inPlayer(0), inPlayer(1), inPlayer(1)), 3)
	checkRight(t, w)
	for _, x := range []struct {
		why          string
		gives, wants []int
		want         api.Errno
	}{
		{"as many both ways, with no room left", list(0), list(3), api.OK},
		{"as many both ways, all of the other one's", list(0, 2), list(3, 4), api.OK},
		{"one to the one who may hold one more", list(1), nil, api.OK},
		{"two to the one who may hold one more", list(1, 2), nil, errFull},
		{"one more to the one who may hold one more", list(1, 2), list(4), api.OK},
		{"two more to the one who may hold one more", list(0, 1, 2), list(4), errFull},
		{"all for all", list(0, 1, 2), list(3, 4), api.OK},
		{"one to the one who may hold no more", nil, list(3), errFull},
		{"one more to the one who may hold no more", list(0), list(3, 4), errFull},
		{"nothing for nothing", nil, nil, api.OK},
	} {
		c := swap(1, x.gives, 0, x.wants, 0)
		if _, err := Trade(w, 0, c); err != x.want {
			t.Errorf("%s: error %d", x.why, err)
		}
		checkTrade(t, w, 0, c, x.want)
		checkTrade(t, w, 1, mirrored(0, c), x.want)
	}
}

func TestTradeAsksOnlyHowMuchBothHaveDirectly(t *testing.T) {
	w := capped(with(sized(1, 0, 0, 0), inPlayer(0), inBox(0), inBox(0), inPlayer(1), inBox(3), inBox(3), inPlayer(2), inPlayer(2)), 2)
	checkRight(t, w)
	checkTrade(t, w, 0, swap(1, list(0), 0, nil, 0), api.OK)
	checkTrade(t, w, 0, swap(1, nil, 0, list(3), 0), api.OK)
	checkTrade(t, w, 0, swap(2, list(0), 0, nil, 0), errFull)
	checkTrade(t, w, 0, swap(2, nil, 0, list(6), 0), api.OK)
	checkTrade(t, w, 0, swap(2, nil, 0, list(6, 7), 0), errFull)
	checkTrade(t, w, 0, swap(2, list(0), 0, list(6, 7), 0), api.OK)
}

func TestTradeOfCoins(t *testing.T) {
	for _, x := range []struct {
		why      string
		a, b     int // what both have
		pay, fee int
		want     api.Errno
	}{
		{"just those that one has", 5, 2, 5, 0, api.OK},
		{"one more than one has", 5, 2, 6, 0, errPoor},
		{"just those that the other one has", 5, 2, 0, 2, api.OK},
		{"one more than the other one has", 5, 2, 0, 3, errPoor},
		{"all for all", 5, 2, 5, 2, api.OK},
		{"one more than one has, for all", 5, 2, 6, 2, errPoor},
		{"all for one more than the other one has", 5, 2, 5, 3, errPoor},
		{"one more than one will have, where it comes back", 5, 9, 6, 6, errPoor},
		{"one more than the other one will have, where it comes back", 9, 5, 6, 6, errPoor},
		{"of nothing", 0, 0, 1, 0, errPoor},
		{"of nothing, by the other one", 0, 0, 0, 1, errPoor},
		{"nothing of nothing", 0, 0, 0, 0, api.OK},
		{"as many as the other one may have", 5, maxCoins - 5, 5, 0, api.OK},
		{"one more than the other one may have", 6, maxCoins - 5, 6, 0, errRich},
		{"as many as one may have", maxCoins - 5, 5, 0, 5, api.OK},
		{"one more than one may have", maxCoins - 5, 6, 0, 6, errRich},
		{"to one who has as many as may be", 5, maxCoins, 1, 0, errRich},
		{"by one who has as many as may be", 5, maxCoins, 0, 1, api.OK},
		{"of one who has as many as may be", maxCoins, 5, 0, 1, errRich},
		{"to one who has as many, where as many come back", 5, maxCoins, 5, 5, api.OK},
		{"to one who has as many, where one less comes back", 5, maxCoins, 5, 4, errRich},
		{"full purses", maxCoins, maxCoins, maxCoins, maxCoins, api.OK},
		{"full purses, one less", maxCoins, maxCoins, maxCoins, maxCoins - 1, errRich},
		{"full purses, one less the other way", maxCoins, maxCoins, maxCoins - 1, maxCoins, errRich},
		{"a full purse for nothing", maxCoins, 0, maxCoins, 0, api.OK},
		{"a full purse for one", maxCoins, 1, maxCoins, 0, errRich},
		{"a full purse for one, and that back", maxCoins, 1, maxCoins, 1, api.OK},
		{"a full purse of the other one", 0, maxCoins, 0, maxCoins, api.OK},
		{"poor ahead of rich", 5, maxCoins, 6, 0, errPoor},
		{"poor ahead of rich, the other one", maxCoins, 5, 0, 6, errPoor},
	} {
		for _, lists := range [][2][]int{{}, {list(0)}, {nil, list(1)}, {list(0), list(1)}} {
			w := paid(with(sized(2, 1, 1, 1), inPlayer(2), inPlayer(0)), 77, x.b, x.a)
			checkRight(t, w)
			c := swap(1, lists[0], x.pay, nil, x.fee)
			if lists[1] != nil {
				w.Where[1] = inPlayer(1)
				c.Wants = lists[1]
			}
			if _, err := Trade(w, 2, c); err != x.want {
				t.Errorf("%s: error %d", x.why, err)
			}
			checkTrade(t, w, 2, c, x.want)
		}
	}
}

func TestTradeOfAllKindsOfCoins(t *testing.T) {
	purses := []int{0, 1, 2, maxCoins / 2, maxCoins - 1, maxCoins}
	for _, a := range purses {
		for _, b := range purses {
			w := paid(sized(1, 0, 0), a, b)
			checkRight(t, w)
			for _, pay := range purses {
				for _, fee := range purses {
					checkTrade(t, w, 0, swap(1, nil, pay, nil, fee), wantSwap(a, b, pay, fee))
				}
			}
		}
	}
}

func TestTheFirstOfSeveralErrorsOfTrade(t *testing.T) {
	w := capped(wide(), 3) // the players 0 and 2 may hold no more
	checkRight(t, w)
	checkTrade(t, w, 0, swap(4, list(3, 3), 99, nil, 0), errNone) // no player, twice, away, and poor
	checkTrade(t, w, 0, swap(0, list(16), 0, nil, 0), errNone)    // no item, and oneself
	checkTrade(t, w, 0, swap(0, nil, 0, list(16), 0), errNone)
	checkTrade(t, w, 0, swap(1, list(16), 0, nil, 0), errNone) // no item, and another room
	checkTrade(t, w, 0, swap(1, nil, 0, list(16), 0), errNone)
	checkTrade(t, w, 0, swap(2, list(0, 0, 16), 0, nil, 0), errNone) // no item, and twice
	checkTrade(t, w, 0, swap(2, nil, 0, list(16, 16), 0), errNone)
	checkTrade(t, w, 0, swap(2, list(16), 0, list(16), 0), errNone)
	checkTrade(t, w, 0, swap(2, list(3), 0, list(16), 0), errNone) // no item, and away
	checkTrade(t, w, 0, swap(2, list(16), 99, list(3), 0), errNone)

	checkTrade(t, w, 0, swap(0, list(0, 0), 0, nil, 0), errSelf) // oneself, and twice
	checkTrade(t, w, 0, swap(0, list(0), 0, list(0), 0), errSelf)
	checkTrade(t, w, 0, swap(0, list(6), 0, nil, 0), errSelf)  // oneself, and away
	checkTrade(t, w, 0, swap(0, nil, 11, nil, 0), errSelf)     // oneself, and poor
	checkTrade(t, w, 0, swap(0, nil, 0, list(10), 0), errSelf) // oneself, where one may hold no more

	checkTrade(t, w, 0, swap(1, list(0, 0), 0, nil, 0), errAway) // another room, and twice
	checkTrade(t, w, 0, swap(1, list(0), 0, list(0), 0), errAway)
	checkTrade(t, w, 0, swap(1, list(6), 0, nil, 0), errAway) // another room, and away
	checkTrade(t, w, 0, swap(1, nil, 0, list(8), 0), errAway) // another room, and full
	checkTrade(t, w, 0, swap(1, nil, 99, nil, 0), errAway)    // another room, and poor

	checkTrade(t, w, 0, swap(2, list(3, 3), 0, nil, 0), errTwice) // twice, and away
	checkTrade(t, w, 0, swap(2, nil, 0, list(3, 3), 0), errTwice)
	checkTrade(t, w, 0, swap(2, list(3), 0, list(6, 6), 0), errTwice)
	checkTrade(t, w, 0, swap(2, list(0), 0, list(0), 0), errTwice)    // twice, and away, since but one may have it
	checkTrade(t, w, 0, swap(2, nil, 0, list(6, 6), 0), errTwice)     // twice, and full
	checkTrade(t, w, 0, swap(2, list(0, 0), 99, nil, 99), errTwice)   // twice, and poor
	checkTrade(t, w, 0, swap(2, list(0), 0, list(6, 6), 0), errTwice) // twice, where as many as there are would fit

	checkTrade(t, w, 0, swap(2, list(3), 0, nil, 0), errAway) // away, and full
	checkTrade(t, w, 0, swap(2, nil, 0, list(3), 0), errAway)
	checkTrade(t, w, 0, swap(2, list(3), 99, list(6), 0), errAway) // away, and poor
	checkTrade(t, w, 0, swap(2, list(0), 0, list(3), 99), errAway)

	rich := paid(w, maxCoins, 0, maxCoins)
	checkTrade(t, w, 0, swap(2, list(0), 99, nil, 0), errFull) // full, and poor
	checkTrade(t, w, 0, swap(2, nil, 0, list(6), 99), errFull)
	checkTrade(t, rich, 0, swap(2, list(0), 1, nil, 0), errFull) // full, and rich
	checkTrade(t, rich, 0, swap(2, nil, 0, list(6), 1), errFull)
	checkTrade(t, rich, 0, swap(2, list(0), 1, list(3), 0), errAway)     // away, and rich
	checkTrade(t, rich, 0, swap(2, list(0), 1, list(6, 6), 0), errTwice) // twice, and rich
	checkTrade(t, rich, 0, swap(2, list(0), 1, list(6), 0), errRich)     // this alone
	checkTrade(t, w, 0, swap(2, list(0), 99, list(6), 0), errPoor)       // this alone
}

// P11.1 to P11.3, of all small worlds

// has counts the items that are directly with a player.
func has(w api.World, p int) int {
	many := 0
	for _, at := range w.Where {
		if at == inPlayer(p) {
			many++
		}
	}
	return many
}

// wantSwap is the error that comes of coins.
func wantSwap(a, b, pay, fee int) api.Errno {
	if pay > a || fee > b {
		return errPoor
	}
	if a-pay+fee > maxCoins || b-fee+pay > maxCoins {
		return errRich
	}
	return api.OK
}

// wantGive is the error that comes of Give.
func wantGive(w api.World, p, item, q int) api.Errno {
	switch {
	case item < 0 || item >= len(w.Where) || q < 0 || q >= len(w.At):
		return errNone
	case q == p:
		return errSelf
	case w.At[q] != w.At[p] || w.Where[item] != inPlayer(p):
		return errAway
	case has(w, q) == w.Desc.Player:
		return errFull
	}
	return api.OK
}

// wantTrade is the error that comes of Trade.
func wantTrade(w api.World, p int, c api.Cmd) api.Errno {
	all := slices.Sorted(slices.Values(slices.Concat(c.Gives, c.Wants)))
	if c.Who < 0 || c.Who >= len(w.At) || len(all) > 0 && (all[0] < 0 || all[len(all)-1] >= len(w.Where)) {
		return errNone
	}
	if c.Who == p {
		return errSelf
	}
	if w.At[c.Who] != w.At[p] {
		return errAway
	}
	if len(slices.Compact(slices.Clone(all))) < len(all) {
		return errTwice
	}
	for _, item := range all {
		holder := p
		if slices.Contains(c.Wants, item) {
			holder = c.Who
		}
		if w.Where[item] != inPlayer(holder) {
			return errAway
		}
	}
	if next := traded(w, p, c); has(next, p) > w.Desc.Player || has(next, c.Who) > w.Desc.Player {
		return errFull
	}
	return wantSwap(w.Coins[p], w.Coins[c.Who], c.Pay, c.Fee)
}

// sides are all lists of at most two items of so many, and of the one just past the last one.
func sides(items int) [][]int {
	lists := [][]int{nil}
	for a := range items + 1 {
		lists = append(lists, list(a))
		for b := range items + 1 {
			lists = append(lists, list(a, b))
		}
	}
	return lists
}

// checkGives holds all gifts of a world against what the chapter says.
func checkGives(t *testing.T, w api.World, met map[api.Errno]int) {
	t.Helper()
	for p := range w.At {
		for item := -1; item <= len(w.Where); item++ {
			for q := -1; q <= len(w.At); q++ {
				err := wantGive(w, p, item, q)
				met[err]++
				checkGive(t, w, p, item, q, err)
				if next, err := Give(w, p, item, q); err == api.OK {
					checkGivenBack(t, w, next, p, item, q)
				}
			}
		}
	}
}

// checkGivenBack sees to it that what p gave comes back, unless p may hold no more, which can't be.
func checkGivenBack(t *testing.T, w, given api.World, p, item, q int) {
	t.Helper()
	again, err := Give(given, q, item, p)
	if err != api.OK || !desc.Same(again, w) {
		t.Errorf("%d given back by %d to %d: %+v, %d, of %+v", item, q, p, again, err, w)
	}
}

// checkTradedBack sees to it that what p traded comes back.
func checkTradedBack(t *testing.T, w, next api.World, p int, c api.Cmd) {
	t.Helper()
	again, err := Trade(next, c.Who, back(p, c))
	if err != api.OK || !desc.Same(again, w) {
		t.Errorf("%+v by %d, traded back: %+v, %d, of %+v", c, p, again, err, w)
	}
}

// checkTrades holds trades of a world against what the chapter says.
func checkTrades(t *testing.T, w api.World, trades []api.Cmd, met map[api.Errno]int) {
	t.Helper()
	for p := range w.At {
		for _, c := range trades {
			want := wantTrade(w, p, c)
			met[want]++
			next, err := Trade(w, p, c)
			check(t, "Trade", w, p, c, want, next, err)
			if err != api.OK {
				continue
			}
			checkTradedBack(t, w, next, p, c)
			got, err := Trade(w, c.Who, mirrored(p, c))
			check(t, "Trade, the other way round,", w, p, c, api.OK, got, err)
		}
	}
}

// allWorlds calls check with each right world like w in which the items from this one on are at one of these places, and tells how many they are.
func allWorlds(w api.World, item int, places []api.Place, check func(api.World)) int {
	if item < len(w.Where) {
		many := 0
		for _, at := range places {
			w.Where[item] = at
			many += allWorlds(w, item+1, places, check)
		}
		return many
	}
	if !desc.Right(w) {
		return 0
	}
	check(w)
	return 1
}

// smallTrades are those of all sides with both players, and some that there aren't, with few coins.
func smallTrades(t *testing.T, items int) []api.Cmd {
	t.Helper()
	var trades []api.Cmd
	for who := range 3 {
		for n, gives := range sides(items) {
			for m, wants := range sides(items) {
				c := swap(who, gives, (n+m)%3, wants, (n+2*m)%4)
				if !cmd.May(c) {
					t.Fatalf("%+v may not be", c)
				}
				trades = append(trades, c)
			}
		}
	}
	return trades
}

func TestAllSmallWorlds(t *testing.T) {
	places := []api.Place{inRoom(0), inPlayer(0), inPlayer(1), inBox(0)}
	trades := smallTrades(t, 3)
	gave, met := map[api.Errno]int{}, map[api.Errno]int{}
	for apart := range 2 {
		for player := range 4 {
			for _, coins := range [][]int{{2, 2}, {2, maxCoins - 1}, {maxCoins, maxCoins}} {
				w := paid(capped(with(sized(2, 0, apart), inRoom(0), inRoom(0), inRoom(0)), player), coins...)
				many := allWorlds(w, 0, places, func(w api.World) {
					checkGives(t, w, gave)
					checkTrades(t, w, trades, met)
				})
				if many < 4 {
					t.Fatalf("only %d worlds", many)
				}
			}
		}
	}
	for _, err := range []api.Errno{api.OK, errNone, errSelf, errAway, errTwice, errFull, errPoor, errRich} {
		if met[err] < 50 {
			t.Errorf("the error %d came of %d trades", err, met[err])
		}
		if given := gave[err]; given < 10 && err != errTwice && err != errPoor && err != errRich {
			t.Errorf("the error %d came of %d gifts", err, given)
		}
	}
}

// pick is one of so many, by a rule without much of an order.
func pick(seed *uint32, many int) int {
	*seed = *seed*1664525 + 1013904223
	return int(*seed>>8) % many
}

// largeWorld is a right world of eight rooms, six players and sixteen items; most are with players, and some in boxes.
func largeWorld(seed *uint32) api.World {
	at := make([]int, 6)
	for p := range at {
		at[p] = pick(seed, 2) * 7
	}
	w := sized(8, at...)
	for item := range 16 {
		place := inPlayer(pick(seed, 6))
		if item > 0 && pick(seed, 4) == 0 {
			place = inBox(pick(seed, min(item, 4)))
		} else if pick(seed, 5) == 0 {
			place = inRoom(at[pick(seed, 6)])
		}
		w = with(w, place)
	}
	full := 0
	for p := range at {
		full = max(full, has(w, p))
		w.Coins[p] = []int{0, 3, 10, maxCoins - 3, maxCoins}[pick(seed, 5)]
	}
	return capped(w, full+pick(seed, 2))
}

// largeTrade is a trade of what both have, for the most part.
func largeTrade(seed *uint32, w api.World, p int) api.Cmd {
	c := swap(pick(seed, 6), nil, pick(seed, 5), nil, pick(seed, 5))
	for item, at := range w.Where {
		astray := pick(seed, 60) == 0
		if pick(seed, 2) == 0 && at == inPlayer(p) || astray {
			c.Gives = append(c.Gives, item)
		}
		if pick(seed, 2) == 0 && at == inPlayer(c.Who) || astray && pick(seed, 2) == 0 {
			c.Wants = append(c.Wants, item)
		}
	}
	return c
}

func TestWorldsAsLargeAsMayBe(t *testing.T) {
	seed := uint32(1)
	gave, met := map[api.Errno]int{}, map[api.Errno]int{}
	for range 300 {
		w := largeWorld(&seed)
		checkRight(t, w)
		checkGives(t, w, gave)
		for p := range w.At {
			for range 20 {
				c := largeTrade(&seed, w, p)
				checkTrade(t, w, p, c, wantTrade(w, p, c))
				checkTrades(t, w, []api.Cmd{c}, met)
			}
		}
	}
	for _, err := range []api.Errno{api.OK, errSelf, errAway, errTwice, errFull, errPoor, errRich} {
		if met[err] < 50 {
			t.Errorf("the error %d came of %d trades", err, met[err])
		}
	}
}

// P11.3

func TestWhatIsInABoxGoesAlong(t *testing.T) {
	w := with(sized(2, 1, 1), inPlayer(0), inBox(0), inBox(1), inBox(0), inPlayer(1), inBox(4), inRoom(1), inBox(6))
	checkRight(t, w)
	given, err := Give(w, 0, 0, 1)
	if want := []api.Place{inPlayer(1), inBox(0), inBox(1), inBox(0), inPlayer(1), inBox(4), inRoom(1), inBox(6)}; err != api.OK || !slices.Equal(given.Where, want) {
		t.Errorf("Give answers %v, %d, not %v", given.Where, err, want)
	}
	checkGive(t, given, 1, 1, 0, errAway) // it is in the box still
	swapped, err := Trade(w, 0, swap(1, list(0), 0, list(4), 0))
	if want := []api.Place{inPlayer(1), inBox(0), inBox(1), inBox(0), inPlayer(0), inBox(4), inRoom(1), inBox(6)}; err != api.OK || !slices.Equal(swapped.Where, want) {
		t.Errorf("Trade answers %v, %d, not %v", swapped.Where, err, want)
	}
	checkTrade(t, swapped, 0, swap(1, list(5), 0, nil, 0), errAway)
	checkRight(t, given)
	checkRight(t, swapped)
}

func TestNothingElseIsElsewhere(t *testing.T) {
	w := wide()
	next, err := Trade(w, 2, swap(0, list(6, 13), 4, list(15), 9))
	if err != api.OK {
		t.Fatal(err)
	}
	for item, at := range next.Where {
		want := w.Where[item]
		switch item {
		case 6, 13:
			want = inPlayer(0)
		case 15:
			want = inPlayer(2)
		}
		if at != want {
			t.Errorf("the item %d is at %v, not at %v", item, at, want)
		}
	}
	if !slices.Equal(next.Coins, []int{5, 17, 29, 31}) {
		t.Errorf("players have %v", next.Coins)
	}
	if !slices.Equal(next.At, w.At) || text(next.Desc) != text(w.Desc) {
		t.Errorf("players are at %v, of %+v, and were at %v, of %+v", next.At, next.Desc, w.At, w.Desc)
	}
}

func TestThereAndBack(t *testing.T) {
	w := capped(wide(), 4)
	w.Where[3] = inPlayer(0) // the player 0 may hold no more
	checkRight(t, w)
	for item, at := range w.Where {
		if at == inPlayer(0) {
			given, err := Give(w, 0, item, 2)
			if err != api.OK {
				t.Fatal(err)
			}
			checkGivenBack(t, w, given, 0, item, 2)
		}
	}
	for _, c := range []api.Cmd{
		swap(2, nil, 0, nil, 0),
		swap(2, nil, 10, nil, 24),
		swap(2, list(0), 10, nil, 0),
		swap(2, list(15, 3), 3, list(6), 20),
		swap(2, list(0, 3, 10, 15), 1, list(6, 11, 13), 1),
	} {
		next, err := Trade(w, 0, c)
		if err != api.OK {
			t.Fatal(c, err)
		}
		checkTradedBack(t, w, next, 0, c)
	}
}

func TestOneCallBehindTheOther(t *testing.T) {
	seed := uint32(7)
	for range 60 {
		w := largeWorld(&seed)
		checkRight(t, w)
		coins, done := sum(w), 0
		for range 100 {
			p := pick(&seed, 6)
			c := largeTrade(&seed, w, p)
			next, err := Trade(w, p, c)
			if pick(&seed, 3) == 0 {
				next, err = Give(w, p, pick(&seed, 16), c.Who)
			}
			if err == api.OK {
				done++
			}
			checkRight(t, next)
			if sum(next) != coins {
				t.Fatalf("%d coins became %d", coins, sum(next))
			}
			w = next
		}
		if done == 0 {
			t.Errorf("nothing was done in %+v", w)
		}
	}
}

// P11.4

// roomy is a list like this one, with room behind its length in which something stands.
func roomy[T any](list []T, behind T) []T {
	return append(slices.Clone(list), behind, behind, behind)[:len(list)]
}

// whole is a list with the room behind its length.
func whole[T any](list []T) []T {
	return list[:cap(list)]
}

// roomyWorld is a world with such room behind all its lists; what stands there would tell, if it were looked at.
func roomyWorld(w api.World) api.World {
	d := &w.Desc
	d.Exits = roomy(d.Exits, [4]int{1, 1, 1, 1})
	d.Players, d.Coins, d.Items, d.Boxes = roomy(d.Players, 1), roomy(d.Coins, 7), roomy(d.Items, 1), roomy(d.Boxes, true)
	w.At, w.Coins, w.Where = roomy(w.At, 1), roomy(w.Coins, 7), roomy(w.Where, inPlayer(0))
	return w
}

// lists are a world's lists, with the room behind their lengths, as texts.
func lists(w api.World) map[string]string {
	return map[string]string{
		"Exits":   text(whole(w.Desc.Exits)),
		"Players": text(whole(w.Desc.Players)),
		"purses":  text(whole(w.Desc.Coins)),
		"Items":   text(whole(w.Desc.Items)),
		"Boxes":   text(whole(w.Desc.Boxes)),
		"At":      text(whole(w.At)),
		"Coins":   text(whole(w.Coins)),
		"Where":   text(whole(w.Where)),
	}
}

// spoilers write all over one of a world's lists, the room behind its length included.
var spoilers = map[string]func(w api.World){
	"Exits":   func(w api.World) { fill(w.Desc.Exits, [4]int{-9, -9, -9, -9}) },
	"Players": func(w api.World) { fill(w.Desc.Players, -8) },
	"purses":  func(w api.World) { fill(w.Desc.Coins, -7) },
	"Items":   func(w api.World) { fill(w.Desc.Items, -6) },
	"Boxes":   func(w api.World) { fill(w.Desc.Boxes, !w.Desc.Boxes[0]) },
	"At":      func(w api.World) { fill(w.At, -5) },
	"Coins":   func(w api.World) { fill(w.Coins, -4) },
	"Where":   func(w api.World) { fill(w.Where, api.Place{Kind: -3, Id: -3}) },
}

func fill[T any](list []T, with T) {
	for i := range whole(list) {
		whole(list)[i] = with
	}
}

// checkLists holds a world's lists, but for one, against what they were.
func checkLists(t *testing.T, what string, w api.World, want map[string]string, but string) {
	t.Helper()
	for name, got := range lists(w) {
		if name != but && got != want[name] {
			t.Errorf("%s: %s became %s, and was %s", what, name, got, want[name])
		}
	}
}

// trades are of wide, with room behind their lists; there is one for each error.
func trades() map[api.Errno][]api.Cmd {
	all := map[api.Errno][]api.Cmd{
		api.OK:   {swap(2, list(15, 0), 3, list(13, 6), 20), swap(2, list(15), 0, nil, 0), swap(2, nil, 0, list(13, 6), 0), swap(2, nil, 3, nil, 0), swap(2, nil, 0, nil, 3), swap(2, nil, 3, nil, 3)},
		errNone:  {swap(2, list(15, 0, 16), 0, list(13, 6), 0), swap(4, list(15, 0), 0, list(13, 6), 0)},
		errSelf:  {swap(0, list(15, 0), 0, list(13, 6), 0)},
		errAway:  {swap(1, list(15, 0), 0, list(13, 6), 0), swap(2, list(15, 3), 0, list(13, 6), 0), swap(2, list(15, 0), 0, list(13, 5), 0)},
		errTwice: {swap(2, list(15, 0, 15), 0, list(13, 6), 0), swap(2, list(15, 0), 0, list(13, 6, 13), 0), swap(2, list(15, 0), 0, list(13, 0), 0)},
		errPoor:  {swap(2, list(15, 0), 11, list(13, 6), 0), swap(2, list(15, 0), 0, list(13, 6), 25)},
	}
	for _, some := range all {
		for n := range some {
			some[n].Gives, some[n].Wants = roomy(some[n].Gives, 10), roomy(some[n].Wants, 11)
		}
	}
	return all
}

func TestWhatIsHandedInStays(t *testing.T) {
	w := roomyWorld(wide())
	checkRight(t, w)
	want := lists(w)
	for p := range w.At {
		for item := -1; item <= len(w.Where); item++ {
			for q := -1; q <= len(w.At); q++ {
				Give(w, p, item, q)
			}
		}
	}
	checkLists(t, "Give", w, want, "")
	for wantErr, some := range trades() {
		for _, c := range some {
			gives, wants, numbers := text(whole(c.Gives)), text(whole(c.Wants)), text(c)
			_, err := Trade(w, 0, c)
			if err != wantErr {
				t.Errorf("%+v: error %d, not %d", c, err, wantErr)
			}
			checkLists(t, text(c), w, want, "")
			if text(whole(c.Gives)) != gives || text(whole(c.Wants)) != wants || text(c) != numbers {
				t.Errorf("the command became %+v, %v, %v, and was %s, %s, %s", c, whole(c.Gives), whole(c.Wants), numbers, gives, wants)
			}
		}
	}
}

func TestWhatIsHandedInStaysWhereItIsFullAndRich(t *testing.T) {
	full, rich := roomyWorld(capped(wide(), 3)), roomyWorld(paid(wide(), maxCoins, maxCoins, maxCoins, maxCoins))
	wantFull, wantRich := lists(full), lists(rich)
	if _, err := Trade(full, 0, swap(2, list(15), 1, nil, 0)); err != errFull {
		t.Errorf("error %d", err)
	}
	if _, err := Give(full, 0, 15, 2); err != errFull {
		t.Errorf("error %d", err)
	}
	if _, err := Trade(rich, 0, swap(2, list(15), 1, list(13), 0)); err != errRich {
		t.Errorf("error %d", err)
	}
	checkLists(t, "full", full, wantFull, "")
	checkLists(t, "rich", rich, wantRich, "")
}

func TestWhatStandsBehindTheListsIsNotLookedAt(t *testing.T) {
	w := roomyWorld(capped(wide(), 3)) // those behind would fill the hands
	w.Where = w.Where[:15]             // the last item, with the player 0, is behind
	w.Desc.Items, w.Desc.Boxes = w.Desc.Items[:15], w.Desc.Boxes[:15]
	w.At, w.Coins = w.At[:3], w.Coins[:3] // and the last player
	w.Desc.Players, w.Desc.Coins = w.Desc.Players[:3], w.Desc.Coins[:3]
	w.Where[14] = inRoom(3)
	checkRight(t, w)
	checkGive(t, w, 2, 6, 0, api.OK)
	checkGive(t, w, 0, 15, 2, errNone)
	checkGive(t, w, 0, 0, 3, errNone)
	checkTrade(t, w, 0, swap(2, list(15), 0, nil, 0), errNone)
	checkTrade(t, w, 0, swap(3, nil, 0, nil, 0), errNone)
	c := swap(2, roomy(list(0), 0), 0, roomy(list(6), 6), 0) // what is behind would stand twice
	checkTrade(t, w, 0, c, api.OK)
	c.Gives, c.Wants = roomy(list(0), 16), roomy(list(6), 16) // or not be there
	checkTrade(t, w, 0, c, api.OK)
}

// changes are calls by which something changes, of wide.
func changes() map[string]func(w api.World) (api.World, api.Errno) {
	all := map[string]func(w api.World) (api.World, api.Errno){
		"Give":                 func(w api.World) (api.World, api.Errno) { return Give(w, 0, 15, 2) },
		"Give of a box":        func(w api.World) (api.World, api.Errno) { return Give(w, 0, 0, 2) },
		"Give by another one":  func(w api.World) (api.World, api.Errno) { return Give(w, 2, 11, 0) },
		"Trade by another one": func(w api.World) (api.World, api.Errno) { return Trade(w, 2, swap(0, list(6), 1, list(0), 0)) },
	}
	for _, c := range trades()[api.OK] {
		all["Trade of "+text(c)] = func(w api.World) (api.World, api.Errno) { return Trade(w, 0, c) }
	}
	return all
}

func TestWhatIsAnsweredIsNewMemory(t *testing.T) {
	for call, change := range changes() {
		for name, spoil := range spoilers {
			w := roomyWorld(wide())
			first, err := change(w)
			second, _ := change(w)
			if err != api.OK {
				t.Fatalf("%s: error %d", call, err)
			}
			if desc.Same(w, first) { // as many coins there and back: a world that stays as it was
				continue
			}
			want, wantFirst, wantSecond := lists(w), lists(first), lists(second)
			spoil(first)
			if lists(first)[name] == wantFirst[name] {
				t.Errorf("%s: nothing was written into %s", call, name)
			}
			checkLists(t, call+", handed in", w, want, "")
			checkLists(t, call+", the same answer", first, wantFirst, name)
			checkLists(t, call+", another answer", second, wantSecond, "")
			spoil(w)
			checkLists(t, call+", an answer, when what was handed in was written into", second, wantSecond, "")
		}
	}
}

func TestTheCommandsListsAreNotKept(t *testing.T) {
	w := wide()
	c := swap(2, roomy(list(15, 0), 10), 0, roomy(list(13, 6), 11), 0)
	next, err := Trade(w, 0, c)
	if err != api.OK {
		t.Fatal(err)
	}
	want := lists(next)
	fill(c.Gives, -1)
	fill(c.Wants, -1)
	checkLists(t, "the command's lists were written into", next, want, "")
	c = swap(2, roomy(list(15, 0), 10), 0, roomy(list(13, 6), 11), 0)
	for _, spoil := range spoilers {
		spoil(next)
	}
	if !slices.Equal(c.Gives, list(15, 0)) || !slices.Equal(c.Wants, list(13, 6)) {
		t.Errorf("the command became %+v", c)
	}
}

func TestEmptyListsAndNilAreOne(t *testing.T) {
	w := wide()
	for _, gives := range [][]int{nil, {}, list(0)} {
		for _, wants := range [][]int{nil, {}, list(6)} {
			checkTrade(t, w, 0, swap(2, gives, 1, wants, 2), api.OK)
		}
	}
	none := sized(1, 0, 0)
	none.Desc.Items, none.Desc.Boxes, none.Where = []int{}, []bool{}, []api.Place{}
	checkTrade(t, none, 0, swap(1, []int{}, 1, []int{}, 2), api.OK)
}

// Whatever is handed in, calls end, and none panics.

// wrongWorlds are worlds that aren't right, for the most part.
func wrongWorlds(numbers []int) []api.World {
	odd, lost, few, fewer, poor, bare, many := wide(), wide(), wide(), wide(), wide(), wide(), wide()
	odd.At = []int{-1, 5, math.MaxInt, math.MinInt}
	odd.Coins = []int{-1, math.MaxInt, math.MinInt, maxCoins + 1}
	for item := range lost.Where {
		lost.Where[item] = api.Place{Kind: numbers[item%len(numbers)], Id: numbers[len(numbers)-1-item%len(numbers)]}
	}
	few.At = few.At[:3]
	fewer.At = nil
	poor.Coins = poor.Coins[:1]
	bare.Where = nil
	many.At, many.Coins, many.Where = make([]int, 40), make([]int, 40), slices.Repeat([]api.Place{inRoom(0), inPlayer(0), inPlayer(1), inBox(1)}, 10)
	knot := with(sized(1, 0, 0), inBox(1), inBox(0), inBox(2), inBox(math.MaxInt), inPlayer(-1), inPlayer(7), inPlayer(0), inPlayer(1))
	below := capped(wide(), math.MinInt)
	return []api.World{{}, {At: []int{0, 0}}, {At: []int{0, 0}, Where: []api.Place{{}, {Kind: 1}}}, {Desc: wide().Desc}, wide(), odd, lost, few, fewer, poor, bare, many, knot, below}
}

func TestWrongArgumentsEndAndDoNotPanic(t *testing.T) {
	numbers := []int{math.MinInt, -1 << 32, -1, 0, 1, 2, 3, 4, 6, 15, 16, 1 << 32, math.MaxInt}
	for _, w := range wrongWorlds(numbers) {
		want := text(w)
		for _, p := range numbers {
			for _, a := range numbers {
				for _, b := range numbers {
					Give(w, p, a, b)
					Trade(w, p, swap(a, list(b), b, nil, 0))
					Trade(w, p, swap(a, nil, 0, list(b), b))
					Trade(w, p, swap(a, list(0), a, list(b), b))
					Trade(w, p, swap(a, nil, b, nil, math.MinInt))
					Trade(w, p, swap(a, list(b, b), 0, list(15, b), 0))
				}
			}
		}
		if got := text(w); got != want {
			t.Errorf("the world became %s, and was %s", got, want)
		}
	}
}

func TestPlayersThatThereAreNotChangeNothing(t *testing.T) {
	w := wide()
	for _, p := range []int{math.MinInt, -1, 4, 6, math.MaxInt} {
		for q := range w.At {
			for item := range w.Where {
				checkGive(t, w, p, item, q, errAway)
				checkTrade(t, w, p, swap(q, nil, 0, list(item), 0), errAway)
			}
			checkTrade(t, w, p, swap(q, nil, 0, nil, 0), errAway)
		}
	}
}

func TestTradesOfManyItemsEnd(t *testing.T) {
	w := wide()
	many := slices.Repeat(list(0), 100000)
	checkTrade(t, w, 0, swap(2, many, 0, many, 0), errTwice)
	checkTrade(t, w, 0, swap(2, append(many, 16), 0, nil, 0), errNone)
}

func TestCoinsBelowZeroChangeNothing(t *testing.T) {
	w := wide()
	checkTrade(t, w, 0, swap(2, list(0), -1, nil, 0), api.ErrArg)
	checkTrade(t, w, 0, swap(2, list(0), 0, nil, -1), api.ErrArg)
}

// The chapter's example, and those of the whole that speak of gifts.

func TestExamples(t *testing.T) {
	d := api.Desc{
		Exits:   [][4]int{{1, -1, -1, -1}, {-1, -1, 0, -1}},
		Players: []int{0, 0}, Coins: []int{5, 2},
		Items: []int{0, 0}, Boxes: []bool{true, false},
		Room: 2, Player: 2, Box: 1,
	}
	w, err := desc.New(d)
	if err != api.OK {
		t.Fatal(err)
	}
	w.Where = []api.Place{inPlayer(0), inBox(0)}
	checkRight(t, w)
	checkTrade(t, w, 1, swap(0, nil, 2, list(0), 0), api.OK)
	checkTrade(t, w, 1, swap(0, nil, 1, nil, 10), errPoor)
	checkTrade(t, w, 0, swap(1, list(0), 0, nil, 5), errPoor)
	w, err = Trade(w, 1, swap(0, nil, 2, list(0), 0))
	if err != api.OK || !slices.Equal(w.Where, []api.Place{inPlayer(1), inBox(0)}) || !slices.Equal(w.Coins, []int{7, 0}) {
		t.Errorf("items are at %v, with %v coins, error %d", w.Where, w.Coins, err)
	}
	checkTrade(t, w, 1, swap(0, nil, 1, nil, 0), errPoor)
	w.At[1] = 1
	checkGive(t, w, 0, 1, 1, errAway)
}
