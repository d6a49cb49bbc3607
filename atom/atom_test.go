package atom

import (
	"fmt"
	"slices"
	"strconv"
	"strings"
	"testing"

	"innkeep/api"
	"innkeep/desc"
	"innkeep/line"
	"innkeep/reply"
)

// text is all that a value has; nil and empty lists are one in it.
func text(x any) string {
	return fmt.Sprintf("%+v", x)
}

// list are numbers of items, or of players.
func list(numbers ...int) []int {
	return numbers
}

// swap is a trade with this player.
func swap(who int, gives []int, pay int, wants []int, fee int) api.Cmd {
	return api.Cmd{Kind: 8, Who: who, Gives: gives, Pay: pay, Wants: wants, Fee: fee}
}

// failed is the answer of an error.
func failed(err api.Errno) api.Reply {
	return api.Reply{Err: err}
}

// change is what a command makes of a world.
type change func(w *api.World)

// brings is the change by which one item is at this place.
func brings(item int, at api.Place) change {
	return func(w *api.World) { w.Where[item] = at }
}

// goes is the change by which one player is in this room.
func goes(p, room int) change {
	return func(w *api.World) { w.At[p] = room }
}

// stays is no change.
func stays(*api.World) {}

// row is a command of a player, what it makes of a world, and how it is answered.
type row struct {
	why  string
	w    api.World
	p    int
	c    api.Cmd
	next change
	want api.Reply
}

// checkRight sees to it that a test speaks of a right world.
func checkRight(t *testing.T, w api.World) {
	t.Helper()
	if !desc.Right(w) {
		t.Fatalf("%+v isn't right", w)
	}
}

// sum is that of all coins.
func sum(w api.World) int {
	all := 0
	for _, n := range w.Coins {
		all += n
	}
	return all
}

// checkSafe holds P13.2 of a world behind another one, and the answer that came with it.
func checkSafe(t *testing.T, what string, w, next api.World, r api.Reply) {
	t.Helper()
	if !desc.Right(next) {
		t.Errorf("%s makes %+v, which isn't right, of %+v", what, next, w)
	}
	if sum(next) != sum(w) {
		t.Errorf("%s makes %v coins of %v", what, next.Coins, w.Coins)
	}
	if len(next.At) != len(w.At) || len(next.Coins) != len(w.Coins) || len(next.Where) != len(w.Where) {
		t.Errorf("%s makes %d players, %d purses, %d items of %d, %d, %d", what, len(next.At), len(next.Coins), len(next.Where), len(w.At), len(w.Coins), len(w.Where))
	}
	if !desc.Same(api.World{Desc: next.Desc}, api.World{Desc: w.Desc}) {
		t.Errorf("%s makes the description %+v of %+v", what, next.Desc, w.Desc)
	}
	if r.Err != api.OK && !desc.Same(next, w) {
		t.Errorf("%s is answered %+v, and makes %+v of %+v", what, r, next, w)
	}
	if !reply.May(r) {
		t.Errorf("%s is answered %+v, which may not be", what, r)
	}
}

// check holds an answer of Do against this world and this reply.
func check(t *testing.T, what string, w api.World, p int, c api.Cmd, wantNext api.World, want api.Reply) {
	t.Helper()
	next, r := Do(w, p, c)
	if !desc.Same(next, wantNext) || !reply.Same(r, want) {
		t.Errorf("%s: %+v of %d makes %v, %v, %v, answered %+v, not %v, %v, %v, %+v, of %+v", what, c, p, next.At, next.Coins, next.Where, r, wantNext.At, wantNext.Coins, wantNext.Where, want, w)
	}
	checkSafe(t, what, w, next, r)
}

// checkRows does each row's command, and sees to it, too, that the model does it in the same way, and that All of it alone does.
func checkRows(t *testing.T, rows []row) {
	t.Helper()
	for _, x := range rows {
		checkRight(t, x.w)
		wantNext := desc.Copy(x.w)
		x.next(&wantNext)
		check(t, x.why, x.w, x.p, x.c, wantNext, x.want)
		if next, r := model(x.w, x.p, x.c); !desc.Same(next, wantNext) || !reply.Same(r, x.want) {
			t.Errorf("%s: the model answers %+v, %+v", x.why, next, r)
		}
		next, replies := All(x.w, []api.Call{{Player: x.p, Cmd: x.c}})
		if len(replies) != 1 || !reply.Same(replies[0], x.want) || !desc.Same(next, wantNext) {
			t.Errorf("%s: All answers %+v, %+v", x.why, next, replies)
		}
	}
}

// P13.1, Do

func TestMove(t *testing.T) {
	w := house()
	c := func(dir int) api.Cmd { return api.Cmd{Kind: 1, Dir: dir} }
	checkRows(t, []row{
		{"north", w, 1, c(0), goes(1, 1), api.Reply{Kind: 1, Room: 1}},
		{"into the last room", w, 1, c(1), goes(1, 7), api.Reply{Kind: 1, Room: 7}},
		{"into the first room", w, 0, c(3), goes(0, 0), api.Reply{Kind: 1, Room: 0}},
		{"south", w, 4, c(2), goes(4, 0), api.Reply{Kind: 1, Room: 0}},
		{"into the room where one is", w, 2, c(3), stays, api.Reply{Kind: 1, Room: 0}},
		{"no exit", w, 1, c(2), stays, failed(api.ErrExit)},
		{"no exit, of the last room", w, 3, c(0), stays, failed(api.ErrExit)},
	})
}

func TestPush(t *testing.T) {
	w := house()
	c := func(who, dir int) api.Cmd { return api.Cmd{Kind: 2, Who: who, Dir: dir} }
	checkRows(t, []row{
		{"north", w, 1, c(2, 0), goes(2, 1), api.Reply{Kind: 2, Room: 1}},
		{"the other way round, into the last room", w, 2, c(1, 1), goes(1, 7), api.Reply{Kind: 2, Room: 7}},
		{"into the first room", w, 0, c(3, 3), goes(3, 0), api.Reply{Kind: 2, Room: 0}},
		{"into the room where both are", w, 1, c(2, 3), stays, api.Reply{Kind: 2, Room: 0}},
		{"one just past the last one", w, 1, c(5, 0), stays, failed(api.ErrNone)},
		{"one far past the last one", w, 1, c(1<<30, 0), stays, failed(api.ErrNone)},
		{"nobody, and no exit", w, 1, c(5, 2), stays, failed(api.ErrNone)},
		{"oneself", w, 1, c(1, 0), stays, failed(api.ErrSelf)},
		{"oneself, and no exit", w, 1, c(1, 2), stays, failed(api.ErrSelf)},
		{"one in another room", w, 1, c(0, 0), stays, failed(api.ErrAway)},
		{"one in another room, and no exit", w, 1, c(0, 2), stays, failed(api.ErrAway)},
		{"no exit", w, 1, c(2, 2), stays, failed(api.ErrExit)},
	})
}

func TestGetAndDrop(t *testing.T) {
	w, full := house(), capped(house(), 2, 3, 64) // the first room and the player 1 may have no more
	get := func(item int) api.Cmd { return api.Cmd{Kind: 3, Item: item} }
	drop := func(item int) api.Cmd { return api.Cmd{Kind: 4, Item: item} }
	got, dropped := api.Reply{Kind: 3}, api.Reply{Kind: 4}
	checkRows(t, []row{
		{"get what is no box", w, 1, get(6), brings(6, inPlayer(1)), got},
		{"get a box, with others in it", w, 2, get(3), brings(3, inPlayer(2)), got},
		{"get in the last room", w, 3, get(10), brings(10, inPlayer(3)), got},
		{"get what isn't", w, 1, get(16), stays, failed(api.ErrNone)},
		{"get what is far from being", w, 1, get(1 << 30), stays, failed(api.ErrNone)},
		{"get what is in a box here", w, 1, get(4), stays, failed(api.ErrAway)},
		{"get what is elsewhere", w, 1, get(10), stays, failed(api.ErrAway)},
		{"get what one has", w, 1, get(0), stays, failed(api.ErrAway)},
		{"get with hands full", full, 1, get(6), stays, failed(api.ErrFull)},
		{"get with hands that aren't full", full, 2, get(6), brings(6, inPlayer(2)), got},
		{"drop a box, with others in it", w, 1, drop(0), brings(0, inRoom(0)), dropped},
		{"drop the last item", w, 1, drop(15), brings(15, inRoom(0)), dropped},
		{"drop in the last room", w, 0, drop(12), brings(12, inRoom(7)), dropped},
		{"drop what isn't", w, 1, drop(16), stays, failed(api.ErrNone)},
		{"drop what is on the floor", w, 1, drop(3), stays, failed(api.ErrAway)},
		{"drop what is in a box that one has", w, 1, drop(1), stays, failed(api.ErrAway)},
		{"drop what another one has", w, 1, drop(7), stays, failed(api.ErrAway)},
		{"drop in a room that is full", full, 1, drop(9), stays, failed(api.ErrFull)},
		{"drop in a room that isn't full", full, 0, drop(12), brings(12, inRoom(7)), dropped},
	})
}

func TestPut(t *testing.T) {
	w, full := house(), capped(house(), 64, 3, 1)
	c := func(item, box int) api.Cmd { return api.Cmd{Kind: 5, Item: item, Box: box} }
	put := api.Reply{Kind: 5}
	checkRows(t, []row{
		{"the last item into the first one", w, 1, c(15, 0), brings(15, inBox(0)), put},
		{"the first item into the last one", w, 1, c(0, 15), brings(0, inBox(15)), put},
		{"what is no box", w, 1, c(9, 2), brings(9, inBox(2)), put},
		{"into a box on the floor", w, 2, c(13, 3), brings(13, inBox(3)), put},
		{"as deep as may be", w, 1, c(0, 4), brings(0, inBox(4)), put},
		{"no item", w, 1, c(16, 0), stays, failed(api.ErrNone)},
		{"no item as a box", w, 1, c(0, 16), stays, failed(api.ErrNone)},
		{"what one hasn't", w, 1, c(6, 0), stays, failed(api.ErrAway)},
		{"into a box that another one has", w, 1, c(9, 7), stays, failed(api.ErrAway)},
		{"into a box elsewhere", w, 1, c(9, 10), stays, failed(api.ErrAway)},
		{"into what is no box", w, 1, c(0, 6), stays, failed(api.ErrBox)},
		{"into itself", w, 1, c(15, 15), stays, failed(api.ErrLoop)},
		{"into what is in it", w, 1, c(0, 2), stays, failed(api.ErrLoop)},
		{"too deep", w, 1, c(0, 5), stays, failed(api.ErrDeep)},
		{"into a box that is full", full, 1, c(9, 0), stays, failed(api.ErrFull)},
		{"into a box that isn't full", full, 1, c(9, 15), brings(9, inBox(15)), put},
	})
}

func TestTake(t *testing.T) {
	w, full := house(), capped(house(), 64, 3, 1) // the player 1 may hold no more
	c := func(item, box int) api.Cmd { return api.Cmd{Kind: 6, Item: item, Box: box} }
	took := api.Reply{Kind: 6}
	checkRows(t, []row{
		{"out of a box that one has", w, 1, c(1, 0), brings(1, inPlayer(1)), took},
		{"out of a box in it", w, 1, c(2, 1), brings(2, inPlayer(1)), took},
		{"out of a box on the floor", w, 2, c(4, 3), brings(4, inPlayer(2)), took},
		{"out of a box in it", w, 1, c(5, 4), brings(5, inPlayer(1)), took},
		{"no item", w, 1, c(16, 0), stays, failed(api.ErrNone)},
		{"no item as a box", w, 1, c(1, 16), stays, failed(api.ErrNone)},
		{"out of a box that another one has", w, 1, c(8, 7), stays, failed(api.ErrAway)},
		{"out of a box elsewhere", w, 1, c(11, 10), stays, failed(api.ErrAway)},
		{"out of what is no box", w, 1, c(1, 9), stays, failed(api.ErrBox)},
		{"what is in another box", w, 1, c(2, 0), stays, failed(api.ErrAway)},
		{"with hands full", full, 1, c(1, 0), stays, failed(api.ErrFull)},
		{"with hands that aren't full", full, 2, c(4, 3), brings(4, inPlayer(2)), took},
	})
}

func TestGive(t *testing.T) {
	w, full := house(), capped(house(), 64, 3, 1) // the player 1 may hold no more
	c := func(item, who int) api.Cmd { return api.Cmd{Kind: 7, Item: item, Who: who} }
	gave := api.Reply{Kind: 7}
	checkRows(t, []row{
		{"the first item, with others in it", w, 1, c(0, 2), brings(0, inPlayer(2)), gave},
		{"the last item", w, 1, c(15, 2), brings(15, inPlayer(2)), gave},
		{"the other way round", w, 2, c(7, 1), brings(7, inPlayer(1)), gave},
		{"in the last room", w, 0, c(12, 3), brings(12, inPlayer(3)), gave},
		{"no item", w, 1, c(16, 2), stays, failed(api.ErrNone)},
		{"to nobody", w, 1, c(0, 5), stays, failed(api.ErrNone)},
		{"to oneself", w, 1, c(0, 1), stays, failed(api.ErrSelf)},
		{"to one in another room", w, 1, c(0, 3), stays, failed(api.ErrAway)},
		{"what is on the floor", w, 1, c(3, 2), stays, failed(api.ErrAway)},
		{"what the other one has", w, 1, c(7, 2), stays, failed(api.ErrAway)},
		{"to one who may hold no more", full, 2, c(7, 1), stays, failed(api.ErrFull)},
		{"by one who may hold no more", full, 1, c(0, 2), brings(0, inPlayer(2)), gave},
	})
}

func TestTrade(t *testing.T) {
	w, full, rich := house(), capped(house(), 64, 3, 1), paid(house(), 10, maxCoins, maxCoins)
	traded := api.Reply{Kind: 8}
	pays := func(n int) change { return func(w *api.World) { w.Coins[1], w.Coins[2] = w.Coins[1]-n, w.Coins[2]+n } }
	checkRows(t, []row{
		{"items for items", w, 1, swap(2, list(15, 0), 0, list(7), 0), func(w *api.World) {
			w.Where[15], w.Where[0], w.Where[7] = inPlayer(2), inPlayer(2), inPlayer(1)
		}, traded},
		{"items and coins", w, 2, swap(1, list(13), 24, list(9), 1), func(w *api.World) {
			w.Where[13], w.Where[9], w.Coins[1], w.Coins[2] = inPlayer(1), inPlayer(2), 40, 1
		}, traded},
		{"coins for nothing", w, 1, swap(2, nil, 17, nil, 0), pays(17), traded},
		{"nothing for coins", w, 1, swap(2, nil, 0, nil, 24), pays(-24), traded},
		{"nothing for nothing", w, 1, swap(2, nil, 0, nil, 0), stays, traded},
		{"all coins for as many", rich, 1, swap(2, nil, maxCoins, nil, maxCoins), stays, traded},
		{"with nobody", w, 1, swap(5, nil, 0, nil, 0), stays, failed(api.ErrNone)},
		{"no item given", w, 1, swap(2, list(0, 16), 0, nil, 0), stays, failed(api.ErrNone)},
		{"no item wanted", w, 1, swap(2, nil, 0, list(7, 16), 0), stays, failed(api.ErrNone)},
		{"with oneself", w, 1, swap(1, list(0), 0, nil, 0), stays, failed(api.ErrSelf)},
		{"with one in another room", w, 1, swap(0, list(0), 0, nil, 0), stays, failed(api.ErrAway)},
		{"an item given twice", w, 1, swap(2, list(0, 0), 0, nil, 0), stays, failed(api.ErrTwice)},
		{"an item given and wanted", w, 1, swap(2, list(0), 0, list(0), 0), stays, failed(api.ErrTwice)},
		{"as many as may be, of one item", w, 1, swap(2, make([]int, 16), 0, make([]int, 16), 0), stays, failed(api.ErrTwice)},
		{"what one hasn't", w, 1, swap(2, list(3), 0, nil, 0), stays, failed(api.ErrAway)},
		{"what the other one hasn't", w, 1, swap(2, nil, 0, list(8), 0), stays, failed(api.ErrAway)},
		{"more than one may hold", full, 1, swap(2, nil, 0, list(13), 0), stays, failed(api.ErrFull)},
		{"more than the other one may hold", full, 1, swap(2, list(0, 9), 0, nil, 0), stays, failed(api.ErrFull)},
		{"as many as one may hold", full, 1, swap(2, list(9), 0, list(13), 0), func(w *api.World) {
			w.Where[9], w.Where[13] = inPlayer(2), inPlayer(1)
		}, traded},
		{"more coins than one has", w, 1, swap(2, nil, 18, nil, 0), stays, failed(api.ErrPoor)},
		{"more coins than the other one has", w, 1, swap(2, list(0), 0, nil, 25), stays, failed(api.ErrPoor)},
		{"more coins than one may have", rich, 1, swap(2, nil, 0, nil, 1), stays, failed(api.ErrRich)},
		{"more coins than the other one may have", rich, 1, swap(2, list(0), 1, nil, 0), stays, failed(api.ErrRich)},
	})
}

func TestLookAndOwn(t *testing.T) {
	w, look, own := house(), api.Cmd{Kind: 9}, api.Cmd{Kind: 10}
	floor := []api.Seen{{Item: 3, At: inRoom(0)}, {Item: 4, At: inBox(3)}, {Item: 5, At: inBox(4)}, {Item: 6, At: inRoom(0)}}
	hands := []api.Seen{{Item: 0, At: inPlayer(1)}, {Item: 1, At: inBox(0)}, {Item: 2, At: inBox(1)}, {Item: 9, At: inPlayer(1)}, {Item: 15, At: inPlayer(1)}}
	last := []api.Seen{{Item: 10, At: inRoom(7)}, {Item: 11, At: inBox(10)}}
	checkRows(t, []row{
		{"look in the first room", w, 1, look, stays, api.Reply{Kind: 9, Players: list(1, 2), Items: floor}},
		{"look there, by another one", w, 2, look, stays, api.Reply{Kind: 9, Players: list(1, 2), Items: floor}},
		{"look in the last room", w, 0, look, stays, api.Reply{Kind: 9, Room: 7, Players: list(0, 3), Items: last}},
		{"look, alone in an empty room", sized(8, 7), 0, look, stays, api.Reply{Kind: 9, Room: 7, Players: list(0)}},
		{"own of boxes in boxes", w, 1, own, stays, api.Reply{Kind: 10, Coins: 17, Items: hands}},
		{"own of one item", w, 0, own, stays, api.Reply{Kind: 10, Coins: 10, Items: []api.Seen{{Item: 12, At: inPlayer(0)}}}},
		{"own of coins alone", w, 3, own, stays, api.Reply{Kind: 10, Coins: 31}},
		{"own of nothing", paid(w, 0, 0, 0, 0), 3, own, stays, api.Reply{Kind: 10}},
		{"own of all coins that may be", paid(w, 0, 0, 0, maxCoins), 3, own, stays, api.Reply{Kind: 10, Coins: maxCoins}},
	})
}

// good are commands that are done without an error, each by the player 1 of a house, one of each kind.
func good() []api.Cmd {
	return []api.Cmd{
		{Kind: 1, Dir: 1},
		{Kind: 2, Who: 2, Dir: 1},
		{Kind: 3, Item: 6},
		{Kind: 4, Item: 9},
		{Kind: 5, Item: 9, Box: 15},
		{Kind: 6, Item: 1, Box: 0},
		{Kind: 7, Item: 15, Who: 2},
		swap(2, list(15, 9), 3, list(13), 4),
		{Kind: 9},
		{Kind: 10},
	}
}

// spoils are changes, by each of which a good command may not be any more.
func spoils() []func(c *api.Cmd) {
	return []func(c *api.Cmd){
		func(c *api.Cmd) { c.Kind = 0 },
		func(c *api.Cmd) { c.Kind = -1 },
		func(c *api.Cmd) { c.Kind = 11 },
		func(c *api.Cmd) { c.Kind += 1 << 32 },
		func(c *api.Cmd) { c.Dir = -1 },
		func(c *api.Cmd) { c.Dir = 4 },
		func(c *api.Cmd) { c.Item = -1 },
		func(c *api.Cmd) { c.Item = 1<<30 + 1 },
		func(c *api.Cmd) { c.Box = -1 },
		func(c *api.Cmd) { c.Box = 1<<30 + 1 },
		func(c *api.Cmd) { c.Who = -1 },
		func(c *api.Cmd) { c.Who = 1<<30 + 1 },
		func(c *api.Cmd) { c.Pay = -1 },
		func(c *api.Cmd) { c.Pay = 1<<30 + 1 },
		func(c *api.Cmd) { c.Fee = -1 },
		func(c *api.Cmd) { c.Fee = 1<<30 + 1 },
		func(c *api.Cmd) { c.Gives = list(-1) },
		func(c *api.Cmd) { c.Wants = list(1<<30 + 1) },
		func(c *api.Cmd) { c.Gives = make([]int, 17) },
		func(c *api.Cmd) { c.Wants = make([]int, 17) },
	}
}

func TestCommandsOfEachKindAreDone(t *testing.T) {
	w := house()
	for n, c := range good() {
		wantNext, want := model(w, 1, c)
		check(t, "a good one", w, 1, c, wantNext, want)
		if want.Err != api.OK || want.Kind != n+1 {
			t.Errorf("%+v is answered %+v", c, want)
		}
	}
}

func TestCommandsThatMayNotBe(t *testing.T) {
	w := house()
	for n, c := range good() {
		for i, spoil := range spoils() {
			c := c
			spoil(&c)
			check(t, "spoil "+strconv.Itoa(i)+" of kind "+strconv.Itoa(n+1), w, 1, c, w, failed(api.ErrForm))
		}
	}
}

func TestFieldsThatAKindHasNot(t *testing.T) {
	w := house()
	fields := map[string]func(c *api.Cmd){
		"Dir":   func(c *api.Cmd) { c.Dir = 1 },
		"Item":  func(c *api.Cmd) { c.Item = 1 },
		"Box":   func(c *api.Cmd) { c.Box = 1 },
		"Who":   func(c *api.Cmd) { c.Who = 1 },
		"Gives": func(c *api.Cmd) { c.Gives = list(0) },
		"Pay":   func(c *api.Cmd) { c.Pay = 1 },
		"Wants": func(c *api.Cmd) { c.Wants = list(0) },
		"Fee":   func(c *api.Cmd) { c.Fee = 1 },
	}
	has := []string{"Dir", "Who Dir", "Item", "Item", "Item Box", "Item Box", "Item Who", "Who Gives Pay Wants Fee", "", ""}
	for n, c := range good() {
		for name, set := range fields {
			if strings.Contains(has[n], name) {
				continue
			}
			c := c
			set(&c)
			check(t, name+" of kind "+strconv.Itoa(n+1), w, 1, c, w, failed(api.ErrForm))
		}
	}
}

func TestACommandThatMayNotBeIsSoBeforeAllElse(t *testing.T) {
	w := house()
	for _, c := range []api.Cmd{
		{Kind: 1, Dir: 2, Fee: 1},            // and there is no exit
		{Kind: 2, Who: 5, Dir: 4},            // and nobody is pushed
		{Kind: 3, Item: 16, Box: 1},          // and there is no such item
		{Kind: 5, Item: 15, Box: 15, Who: 1}, // and it is in itself
		{Kind: 7, Item: 0, Who: 1, Dir: 1},   // and it is oneself
		swap(1, make([]int, 17), 0, nil, 0),  // and an item stands twice
		swap(2, list(0, -1), 1<<30, nil, 0),  // and there aren't so many coins
	} {
		check(t, "ErrForm", w, 1, c, w, failed(api.ErrForm))
	}
}

func TestEmptyListsAndNilAreOne(t *testing.T) {
	w := house()
	for _, c := range good() {
		if c.Kind == 8 {
			continue
		}
		wantNext, want := model(w, 1, c)
		c.Gives, c.Wants = []int{}, []int{}
		check(t, "empty lists", w, 1, c, wantNext, want)
	}
	wantNext, want := model(w, 1, swap(2, nil, 3, nil, 4))
	check(t, "a trade of coins", w, 1, swap(2, []int{}, 3, []int{}, 4), wantNext, want)
	bare := sized(2, 1)
	bare.Desc.Items, bare.Desc.Boxes, bare.Where = []int{}, []bool{}, []api.Place{}
	check(t, "no items", bare, 0, api.Cmd{Kind: 9}, bare, api.Reply{Kind: 9, Room: 1, Players: list(0)})
	for _, l := range [][]api.Call{nil, {}} {
		if next, replies := All(w, l); len(replies) != 0 || !desc.Same(next, w) {
			t.Errorf("All of no calls answers %+v, %+v", next, replies)
		}
	}
}

// P13.1, All

// told is a call of which a story tells, and how it is answered.
type told struct {
	p            int
	line, answer string
}

// callsOf are a story's calls; a malformed line is a zero command.
func callsOf(story []told) []api.Call {
	var calls []api.Call
	for _, x := range story {
		c, _ := line.Get(x.line)
		calls = append(calls, api.Call{Player: x.p, Cmd: c})
	}
	return calls
}

// checkStory does a story's calls, one by one, and all at once.
func checkStory(t *testing.T, w api.World, story []told) api.World {
	t.Helper()
	checkRight(t, w)
	calls := callsOf(story)
	last, replies := All(w, calls)
	if len(replies) != len(calls) {
		t.Fatalf("%d calls have %d answers", len(calls), len(replies))
	}
	next := w
	for n, x := range story {
		before := next
		var r api.Reply
		next, r = Do(before, x.p, calls[n].Cmd)
		checkSafe(t, x.line, before, next, r)
		for _, got := range []api.Reply{r, replies[n]} {
			if answer, err := reply.Put(got); answer != x.answer || err != api.OK {
				t.Errorf("%d, %d: %s: is answered %q, not %q", n, x.p, x.line, answer, x.answer)
			}
		}
	}
	if !desc.Same(last, next) {
		t.Errorf("All makes %+v, and Do, one by one, %+v", last, next)
	}
	return last
}

// inn is the world of the ten examples of the whole.
func inn(t *testing.T) api.World {
	t.Helper()
	w, err := desc.New(api.Desc{
		Exits:   [][4]int{{1, -1, -1, -1}, {-1, -1, 0, -1}},
		Players: []int{0, 0}, Coins: []int{5, 2},
		Items: []int{0, 0}, Boxes: []bool{true, false},
		Room: 2, Player: 2, Box: 1,
	})
	if err != api.OK {
		t.Fatal(err)
	}
	return w
}

func TestTheExampleOfTheChapter(t *testing.T) {
	w := house()
	next, r := Do(w, 1, api.Cmd{Kind: api.Get, Item: 10})
	if !desc.Same(next, w) || !reply.Same(r, api.Reply{Err: 5}) {
		t.Errorf("Get of an item that isn't here answers %+v, %+v", next, r)
	}
}

func TestExamplesOfTheWhole(t *testing.T) {
	w := checkStory(t, inn(t), []told{
		{0, "get 0", "get"},
		{1, "get 0", "error 5"},
		{0, "get 1", "get"},
		{0, "put 1 in 0", "put"},
		{0, "own", "own 5 items 0 with 0 1 box 0"},
		{0, "put 0 in 0", "error 7"},
		{1, "trade 0 give coins 2 for 0 coins 0", "trade"},
		{1, "own", "own 0 items 0 with 1 1 box 0"},
		{1, "trade 0 give coins 1 for coins 0", "error 10"},
		{0, "push 1 north", "push 1"},
		{1, "look", "look 1 players 1 items"},
		{0, "give 1 to 1", "error 5"},
		{1, "GET 1", "error 2"},
	})
	if !slices.Equal(w.Where, []api.Place{inPlayer(1), inBox(0)}) || !slices.Equal(w.Coins, list(7, 0)) || !slices.Equal(w.At, list(0, 1)) {
		t.Errorf("behind all of them the world is %+v", w)
	}
}

func TestALaterCallMeetsWhatAnEarlierOneDid(t *testing.T) {
	checkStory(t, inn(t), []told{
		{1, "take 1 out 0", "error 2"},
		{1, "look", "look 0 players 0 1 items 0 in 0 1 in 0"},
		{1, "get 1", "get"},
		{0, "get 1", "error 5"},
		{1, "put 1 in 0", "put"},
		{0, "look", "look 0 players 0 1 items 0 in 0 1 box 0"},
		{0, "move east", "error 4"},
		{0, "get 0", "get"},
		{1, "take 1 from 0", "error 5"},
		{0, "move north", "move 1"},
		{1, "look", "look 0 players 1 items"},
		{0, "drop 0", "drop"},
		{1, "push 0 south", "error 5"},
		{1, "move north", "move 1"},
		{1, "take 1 from 0", "take"},
		{1, "give 1 to 0", "give"},
		{1, "give 1 to 0", "error 5"},
		{0, "trade 1 give 1 coins 0 for coins 2", "trade"},
		{0, "own", "own 7 items"},
		{1, "own", "own 0 items 1 with 1"},
		{1, "push 0 south", "push 0"},
		{0, "look", "look 0 players 0 items"},
		{1, "push 1 south", "error 12"},
		{1, "get 2", "error 3"},
		{1, "get 0", "get"},
		{1, "put 0 in 1", "error 6"},
		{1, "own", "own 0 items 0 with 1 1 with 1"},
	})
}

func TestErrorsBetweenOthersStopNothing(t *testing.T) {
	checkStory(t, inn(t), []told{
		{0, "get 7", "error 3"},
		{0, "", "error 2"},
		{0, "get 0", "get"},
		{0, "get 0", "error 5"},
		{0, "get 1", "get"},
		{0, "trade 1 give 0 0 coins 0 for coins 0", "error 13"},
		{0, "trade 1 give 0 1 coins 5 for coins 2", "trade"},
		{0, "look", "look 0 players 0 1 items"},
		{0, "drop 0", "error 5"},
		{1, "own", "own 5 items 0 with 1 1 with 1"},
	})
}

func TestAllGoesByPlayersAndCommandsAlone(t *testing.T) {
	w := house()
	calls := []api.Call{
		{Player: 1, Cmd: api.Cmd{Kind: 4, Item: 0}, From: 7, To: -1, Reply: api.Reply{Err: 4}},
		{Player: 2, Cmd: api.Cmd{Kind: 3, Item: 0}, From: -9, To: 3, Reply: api.Reply{Kind: 9, Players: list(3), Items: []api.Seen{{Item: 1}}}},
		{Player: 2, Cmd: api.Cmd{Kind: 10}, To: 1},
	}
	next, replies := All(w, calls)
	want := []api.Reply{{Kind: 4}, {Kind: 3}, {Kind: 10, Coins: 24, Items: []api.Seen{{Item: 0, At: inPlayer(2)}, {Item: 1, At: inBox(0)}, {Item: 2, At: inBox(1)}, {Item: 7, At: inPlayer(2)}, {Item: 8, At: inBox(7)}, {Item: 13, At: inPlayer(2)}}}}
	if !slices.EqualFunc(replies, want, reply.Same) || next.Where[0] != inPlayer(2) {
		t.Errorf("answers are %+v, items at %v", replies, next.Where)
	}
}

func TestAllCutAnywhereIsTheSame(t *testing.T) {
	seed := uint32(3)
	for range 40 {
		w := largeWorld(&seed)
		calls, _ := play(&seed, w, 30)
		next, replies := All(w, calls)
		for cut := range len(calls) + 1 {
			between, first := All(w, calls[:cut])
			last, second := All(between, calls[cut:])
			if !desc.Same(last, next) || !slices.EqualFunc(slices.Concat(first, second), replies, reply.Same) {
				t.Fatalf("cut at %d the calls %+v make %+v, %+v, %+v, of %+v", cut, calls, last, first, second, w)
			}
		}
	}
}

// play are so many likely calls, one behind the other, and the model's answers to them.
func play(seed *uint32, w api.World, many int) ([]api.Call, []api.Reply) {
	var calls []api.Call
	var replies []api.Reply
	for range many {
		call := api.Call{Player: pick(seed, len(w.At))}
		call.Cmd = likely(seed, w, call.Player)
		next, r := model(w, call.Player, call.Cmd)
		calls, replies, w = append(calls, call), append(replies, r), next
	}
	return calls, replies
}

// P13.1 and P13.2, over many worlds

func TestAllSmallWorlds(t *testing.T) {
	commands, worlds := smallCommands(), 0
	for _, size := range [][3]int{{1, 1, 2}, {2, 1, 2}, {1, 2, 2}, {2, 2, 1}, {3, 3, 1}, {2, 2, 2}} {
		smallWorlds(size[0], size[1], size[2], func(w api.World) {
			worlds++
			for n, c := range commands {
				p := (worlds + n) % len(w.At)
				wantNext, want := model(w, p, c)
				check(t, "small", w, p, c, wantNext, want)
			}
		})
	}
	if worlds < 1000 {
		t.Errorf("only %d worlds", worlds)
	}
}

func TestManyCallsOneBehindTheOther(t *testing.T) {
	seed, met := uint32(13), map[int]map[api.Errno]int{}
	for range 1500 {
		w := largeWorld(&seed)
		checkRight(t, w)
		calls, want := play(&seed, w, 60)
		next := w
		for n, call := range calls {
			before := next
			var r api.Reply
			next, r = Do(before, call.Player, call.Cmd)
			if !reply.Same(r, want[n]) {
				t.Fatalf("%+v is answered %+v, not %+v, of %+v", call, r, want[n], before)
			}
			checkSafe(t, text(call), before, next, r)
			if met[call.Cmd.Kind] == nil {
				met[call.Cmd.Kind] = map[api.Errno]int{}
			}
			met[call.Cmd.Kind][r.Err]++
		}
		last, replies := All(w, calls)
		if !desc.Same(last, next) || !slices.EqualFunc(replies, want, reply.Same) {
			t.Fatalf("the calls %+v make %+v, %+v, of %+v", calls, last, replies, w)
		}
	}
	checkMet(t, met)
}

// checkMet sees to it that commands of each kind were done, and were answered with each of its chapter's errors.
func checkMet(t *testing.T, met map[int]map[api.Errno]int) {
	t.Helper()
	for kind, errs := range map[int][]api.Errno{
		1:  {0, 2, 4},
		2:  {0, 2, 3, 4, 5, 12},
		3:  {0, 2, 3, 5, 9},
		4:  {0, 2, 3, 5, 9},
		5:  {0, 2, 3, 5, 6, 7, 8, 9},
		6:  {0, 2, 3, 5, 6, 9},
		7:  {0, 2, 3, 5, 9, 12},
		8:  {0, 2, 3, 5, 9, 10, 11, 12, 13},
		9:  {0, 2},
		10: {0, 2},
	} {
		for _, err := range errs {
			if met[kind][err] < 20 {
				t.Errorf("commands of the kind %d were answered with the error %d %d times", kind, err, met[kind][err])
			}
		}
		if len(met[kind]) != len(errs) {
			t.Errorf("commands of the kind %d were answered with errors %v, not %v", kind, met[kind], errs)
		}
	}
}

func TestAnswersAreReadOfTheirTextsAsTheyWere(t *testing.T) {
	seed := uint32(21)
	for range 100 {
		w := largeWorld(&seed)
		calls, _ := play(&seed, w, 40)
		_, replies := All(w, calls)
		for n, r := range replies {
			answer, err := reply.Put(r)
			got, errGet := reply.Get(answer)
			if err != api.OK || errGet != api.OK || !reply.Same(got, r) {
				t.Errorf("%+v: %+v is read of %q, error %d, as %+v, error %d", calls[n], r, answer, err, got, errGet)
			}
		}
	}
}
