package foot

import (
	"fmt"
	"slices"
	"testing"

	"innkeep/api"
	"innkeep/boxes"
	"innkeep/desc"
	"innkeep/sight"
	"innkeep/tree"
)

// maxCoins is as many coins as one may have.
const maxCoins = 1 << 30

func inRoom(id int) api.Place   { return api.Place{Kind: 0, Id: id} }
func inPlayer(id int) api.Place { return api.Place{Kind: 1, Id: id} }
func inBox(id int) api.Place    { return api.Place{Kind: 2, Id: id} }

func room(id int) api.Key   { return api.Key{Kind: 0, Id: id} }
func player(id int) api.Key { return api.Key{Kind: 1, Id: id} }

// list are keys.
func list(keys ...api.Key) []api.Key {
	return keys
}

// text is all that a value has; nil and empty lists are one in it.
func text(x any) string {
	return fmt.Sprintf("%+v", x)
}

// checkRight sees to it that a test speaks of a right world.
func checkRight(t *testing.T, w api.World) {
	t.Helper()
	if !desc.Right(w) {
		t.Fatalf("%+v isn't right", w)
	}
}

// sized is a world of so many rooms, whose players are in these rooms, and began in others, where there are such, with other purses; there are no exits and no items yet, and nothing is full.
func sized(rooms int, at ...int) api.World {
	w := api.World{Desc: api.Desc{Room: 64, Player: 64, Box: 64}, At: at}
	for range rooms {
		w.Desc.Exits = append(w.Desc.Exits, [4]int{-1, -1, -1, -1})
	}
	for p, here := range at {
		w.Desc.Players = append(w.Desc.Players, (here+1)%rooms)
		w.Desc.Coins = append(w.Desc.Coins, 1000+p)
		w.Coins = append(w.Coins, 10+7*p)
	}
	return w
}

// with is a world like w with items more, all of them boxes, at these places; they began in one room after the other.
func with(w api.World, where ...api.Place) api.World {
	w = desc.Copy(w)
	for _, at := range where {
		w.Desc.Items = append(w.Desc.Items, len(w.Where)%len(w.Desc.Exits))
		w.Desc.Boxes = append(w.Desc.Boxes, true)
		w.Where = append(w.Where, at)
	}
	return w
}

// house is a right world of eight rooms, six players and twelve items. The players 1 and 2 are in the first room, together, 3 and 4 in the last one, and 0 and 5 alone; nothing is in the room of its own number.
func house() api.World {
	w := with(sized(8, 1, 0, 0, 7, 7, 3),
		inRoom(3),   // 0: on a floor, with others in it
		inBox(0),    // 1
		inPlayer(1), // 2: with the player 1, with others in it
		inBox(2),    // 3
		inBox(3),    // 4
		inPlayer(2), // 5
		inRoom(0),   // 6: on the floor where the players 1 and 2 are, with others in it
		inBox(6),    // 7
		inPlayer(4), // 8
		inRoom(7),   // 9
		inPlayer(0), // 10
		inPlayer(1), // 11: the last item
	)
	w.Desc.Exits[0] = [4]int{1, 0, -1, 7}
	w.Desc.Exits[1] = [4]int{-1, 0, 0, 1}
	w.Desc.Exits[3] = [4]int{-1, -1, -1, 7}
	w.Desc.Exits[7] = [4]int{0, 7, 3, -1}
	return w
}

// swap is a trade with this player.
func swap(who int, gives []int, pay int, wants []int, fee int) api.Cmd {
	return api.Cmd{Kind: 8, Who: who, Gives: gives, Pay: pay, Wants: wants, Fee: fee}
}

// digits are those of n, in a system of so many digits.
func digits(n, many, length int) []int {
	list := make([]int, length)
	for i := range list {
		list[i] = n % many
		n /= many
	}
	return list
}

func power(many, length int) int {
	all := 1
	for range length {
		all *= many
	}
	return all
}

// smallWorlds are all right worlds of these sizes, of one description in which all items are boxes, and each player has no coin or one.
func smallWorlds(rooms, players, items int) []api.World {
	var places []api.Place
	for kind, many := range []int{rooms, players, items} {
		for id := range many {
			places = append(places, api.Place{Kind: kind, Id: id})
		}
	}
	begun := with(sized(rooms, make([]int, players)...), slices.Repeat([]api.Place{inRoom(0)}, items)...)
	for id := range rooms {
		begun.Desc.Exits[id] = [4]int{(id + 1) % rooms, -1, id, 0}
	}
	var all []api.World
	for n := range power(rooms, players) {
		for m := range power(2, players) {
			for l := range power(len(places), items) {
				w := desc.Copy(begun)
				w.At, w.Coins = digits(n, rooms, players), digits(m, 2, players)
				for item, place := range digits(l, len(places), items) {
					w.Where[item] = places[place]
				}
				if desc.Right(w) {
					all = append(all, w)
				}
			}
		}
	}
	return all
}

// smallCommands are commands of all kinds, all of which may be, with small numbers.
func smallCommands() []api.Cmd {
	all := []api.Cmd{{Kind: 9}, {Kind: 10}}
	for n := range 4 {
		all = append(all, api.Cmd{Kind: 1, Dir: n}, api.Cmd{Kind: 3, Item: n}, api.Cmd{Kind: 4, Item: n})
		for m := range 4 {
			all = append(all, api.Cmd{Kind: 2, Who: n, Dir: m}, api.Cmd{Kind: 7, Item: n, Who: m})
			all = append(all, api.Cmd{Kind: 5, Item: n, Box: m}, api.Cmd{Kind: 6, Item: n, Box: m})
		}
		for _, gives := range [][]int{nil, {0}, {1}, {0, 1}} {
			all = append(all, swap(n, gives, 1, nil, 0), swap(n, nil, 0, gives, 1), swap(n, gives, 0, []int{1}, 0))
		}
	}
	return all
}

// keysOf are all keys of a world, rising.
func keysOf(w api.World) []api.Key {
	var all []api.Key
	for id := range w.Desc.Exits {
		all = append(all, room(id))
	}
	for id := range w.Desc.Players {
		all = append(all, player(id))
	}
	return all
}

// pick is one of so many, by a rule without much of an order.
func pick(seed *uint32, many int) int {
	*seed = *seed*1664525 + 1013904223
	return int(*seed>>8) % many
}

// one is one of a list.
func one[T any](seed *uint32, list ...T) T {
	return list[pick(seed, len(list))]
}

// largeWorld is a right world of up to eight rooms, six players and sixteen items, some in one another, where places may hold much, or little.
func largeWorld(seed *uint32) api.World {
	rooms, players, items := one(seed, 1+pick(seed, 4), 1+pick(seed, 8)), 1+pick(seed, 6), pick(seed, 17)
	w := sized(rooms, make([]int, players)...)
	for id := range rooms {
		for dir := range 4 {
			w.Desc.Exits[id][dir] = pick(seed, rooms+1) - 1
		}
	}
	w.Desc.Player, w.Desc.Box = one(seed, 1, 2, 3, 64), one(seed, 1, 2, 64, 64)
	w.Desc.Room = one(seed, (items+rooms-1)/rooms, 16, 64) // as they begin in one room after the other, it is enough
	for item := range items {
		w = with(w, inRoom(item%rooms))
		w.Desc.Boxes[item] = pick(seed, 3) > 0
	}
	return scattered(seed, w, nil)
}

// scattered is a right world like w in which all that isn't under these keys is elsewhere, or may be.
func scattered(seed *uint32, w api.World, l []api.Key) api.World {
	next := desc.Copy(w)
	for p := range next.At {
		if !slices.Contains(l, player(p)) && !slices.Contains(l, room(w.At[p])) {
			next.At[p] = pickRoom(seed, w, l, w.At[p])
			next.Coins[p] = one(seed, 0, 1, 3, pick(seed, maxCoins), maxCoins-3, maxCoins)
		}
	}
	for range 3 * len(next.Where) {
		item := pick(seed, len(next.Where))
		was := next.Where[item]
		if isUnder(next, l, item) {
			continue
		}
		next.Where[item] = pickPlace(seed, next)
		if !desc.Right(next) || isUnder(next, l, item) {
			next.Where[item] = was
		}
	}
	return next
}

// isUnder tells whether the item hangs from a room or a player whose key is one of these.
func isUnder(w api.World, l []api.Key, item int) bool {
	root := tree.Root(w, item)
	return slices.Contains(l, api.Key{Kind: root.Kind, Id: root.Id})
}

// pickRoom is a room whose key isn't one of these: if no other is found, it is the one that is handed in.
func pickRoom(seed *uint32, w api.World, l []api.Key, none int) int {
	for range 8 {
		if id := pick(seed, len(w.Desc.Exits)); !slices.Contains(l, room(id)) {
			return id
		}
	}
	return none
}

// pickPlace is a box more often than not, so that some get deep.
func pickPlace(seed *uint32, w api.World) api.Place {
	box := inBox(pick(seed, len(w.Where)))
	return one(seed, inRoom(pick(seed, len(w.Desc.Exits))), inPlayer(pick(seed, len(w.At))), box, box, box)
}

// likely is a command of the player p that may be, and is done, or not, in one of many ways.
func likely(seed *uint32, w api.World, p int) api.Cmd {
	c := api.Cmd{Kind: 1 + pick(seed, 10)}
	who := likelyWho(seed, w, p)
	hands, near := tree.In(w, inPlayer(p)), itemsNear(w, p)
	switch c.Kind {
	case api.Move:
		c.Dir = pick(seed, 4)
	case api.Push:
		c.Who, c.Dir = who, pick(seed, 4)
	case api.Get:
		c.Item = likelyItem(seed, tree.In(w, inRoom(w.At[p])))
	case api.Drop:
		c.Item = likelyItem(seed, hands)
	case api.Put:
		c.Item, c.Box = likelyItem(seed, hands), likelyItem(seed, near)
	case api.Take:
		c.Item, c.Box = likelyItem(seed, near), likelyItem(seed, near)
		if c.Item < len(w.Where) && w.Where[c.Item].Kind == 2 && pick(seed, 4) > 0 {
			c.Box = w.Where[c.Item].Id
		}
	case api.Give:
		c.Item, c.Who = likelyItem(seed, hands), who
	case api.Trade:
		c.Who = who
		c.Gives, c.Wants = likelySide(seed, hands), likelySide(seed, tree.In(w, inPlayer(who)))
		c.Pay, c.Fee = one(seed, 0, 0, 1, pick(seed, maxCoins)), one(seed, 0, 0, 1, pick(seed, maxCoins))
	}
	return c
}

// likelyWho is most often another one who is there.
func likelyWho(seed *uint32, w api.World, p int) int {
	others := slices.DeleteFunc(sight.Present(w, w.At[p]), func(q int) bool { return q == p })
	if len(others) == 0 || pick(seed, 5) == 0 {
		return pick(seed, 7)
	}
	return one(seed, others...)
}

// likelyItem is most often one of these.
func likelyItem(seed *uint32, items []int) int {
	if len(items) == 0 || pick(seed, 8) == 0 {
		return pick(seed, 17)
	}
	return one(seed, items...)
}

// itemsNear are those that are near a player.
func itemsNear(w api.World, p int) []int {
	var items []int
	for item := range w.Where {
		if boxes.Near(w, p, item) {
			items = append(items, item)
		}
	}
	return items
}

// likelySide is one side of a trade: most often some of these, each once.
func likelySide(seed *uint32, items []int) []int {
	items = items[:pick(seed, len(items)+1)]
	if pick(seed, 4) == 0 {
		items = append(items, likelyItem(seed, items))
	}
	return items
}
