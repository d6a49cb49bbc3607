package atom

import (
	"slices"

	"innkeep/api"
	"innkeep/desc"
)

// sized is a world of so many rooms, whose players are in these rooms, and began in others, where there are such, with other purses; there are no exits and no items yet, and nothing is full.
func sized(rooms int, at ...int) api.World {
	w := api.World{Desc: api.Desc{Room: 64, Player: 64, Box: 64}, At: at}
	for range rooms {
		w.Desc.Exits = append(w.Desc.Exits, [4]int{-1, -1, -1, -1})
	}
	for p, room := range at {
		w.Desc.Players = append(w.Desc.Players, (room+1)%rooms)
		w.Desc.Coins = append(w.Desc.Coins, 1000+p)
		w.Coins = append(w.Coins, 10+7*p)
	}
	return w
}

// with is a world like w with items more, all of them boxes, at these places; they began in one room after the other.
func with(w api.World, where ...api.Place) api.World {
	w = desc.Copy(w)
	for _, at := range where {
		w.Desc.Items = append(w.Desc.Items, len(w.Where)%len(w.Desc.Exits))
		w.Desc.Boxes = append(w.Desc.Boxes, true)
		w.Where = append(w.Where, at)
	}
	return w
}

// capped is a world like w, in new memory, in which rooms, players and boxes may hold so much.
func capped(w api.World, room, player, box int) api.World {
	next := desc.Copy(w)
	next.Desc.Room, next.Desc.Player, next.Desc.Box = room, player, box
	return next
}

// paid is a world like w, in new memory, in which the first players have so many coins.
func paid(w api.World, coins ...int) api.World {
	next := desc.Copy(w)
	copy(next.Coins, coins)
	return next
}

// house is a right world of eight rooms, five players and sixteen items. The players 1 and 2 are in the first room, together, and 0 and 3 in the last one; no player is in the room of its own number.
func house() api.World {
	w := with(sized(8, 7, 0, 0, 7, 1),
		inPlayer(1), // 0: the first item, with others in it
		inBox(0),    // 1
		inBox(1),    // 2
		inRoom(0),   // 3: on the floor where the players 1 and 2 are, with others in it
		inBox(3),    // 4
		inBox(4),    // 5
		inRoom(0),   // 6: no box
		inPlayer(2), // 7: with the player 2, with others in it
		inBox(7),    // 8
		inPlayer(1), // 9: no box
		inRoom(7),   // 10: on another floor, with others in it
		inBox(10),   // 11
		inPlayer(0), // 12: with a player elsewhere
		inPlayer(2), // 13: no box
		inRoom(1),   // 14
		inPlayer(1), // 15: the last item
	)
	for _, item := range []int{6, 9, 13} {
		w.Desc.Boxes[item] = false
	}
	w.Desc.Exits[0] = [4]int{1, 7, -1, 0}
	w.Desc.Exits[1] = [4]int{-1, -1, 0, -1}
	w.Desc.Exits[7] = [4]int{-1, -1, -1, 0}
	return w
}

// digits are those of n, in a system of so many digits.
func digits(n, many, length int) []int {
	list := make([]int, length)
	for i := range list {
		list[i] = n % many
		n /= many
	}
	return list
}

func power(many, length int) int {
	all := 1
	for range length {
		all *= many
	}
	return all
}

// smallWorlds hands out all right worlds of these sizes, with each item a box or none, some ways and no others, and with nothing full, and all that may be.
func smallWorlds(rooms, players, items int, yield func(w api.World)) {
	var places []api.Place
	for kind, many := range []int{rooms, players, items} {
		for id := range many {
			places = append(places, api.Place{Kind: kind, Id: id})
		}
	}
	for n := range power(rooms, players) {
		for m := range power(len(places), items) {
			for boxes := range power(2, items) {
				w := sized(rooms, digits(n, rooms, players)...)
				for item, place := range digits(m, len(places), items) {
					w = with(w, places[place])
					w.Desc.Boxes[item] = boxes>>item&1 == 1
				}
				w.Desc.Exits[0] = [4]int{rooms - 1, -1, 0, -1}
				for _, w := range []api.World{w, capped(w, 2, 1, 1)} {
					if desc.Right(w) {
						yield(w)
					}
				}
			}
		}
	}
}

// smallCommands are commands of all kinds, and of such that there aren't, with small numbers; some of them may not be.
func smallCommands() []api.Cmd {
	all := []api.Cmd{{}, {Kind: -1}, {Kind: 11}, {Kind: 9}, {Kind: 10}}
	for n := range 4 {
		all = append(all, api.Cmd{Kind: 1, Dir: n}, api.Cmd{Kind: 3, Item: n - 1}, api.Cmd{Kind: 4, Item: n - 1})
		for m := range 4 {
			all = append(all, api.Cmd{Kind: 2, Who: n - 1, Dir: m}, api.Cmd{Kind: 7, Item: n - 1, Who: m - 1})
			all = append(all, api.Cmd{Kind: 5, Item: n - 1, Box: m - 1}, api.Cmd{Kind: 6, Item: n - 1, Box: m - 1})
		}
	}
	sides := [][]int{nil, {0}, {1}, {0, 1}}
	for _, gives := range sides {
		for _, wants := range sides {
			for who := range 3 {
				all = append(all, swap(who, gives, 0, wants, 0), swap(who, gives, 11, wants, 0), swap(who, gives, 3, wants, 17))
			}
		}
	}
	return all
}

// pick is one of so many, by a rule without much of an order.
func pick(seed *uint32, many int) int {
	*seed = *seed*1664525 + 1013904223
	return int(*seed>>8) % many
}

// one is one of a list.
func one[T any](seed *uint32, list ...T) T {
	return list[pick(seed, len(list))]
}

// largeWorld is a right world of up to three rooms, so that some meet, or up to eight, up to six players and sixteen items, where each place may hold as much as one has, or a little more; each box may be of a lower number than what is in it, or of a higher one.
func largeWorld(seed *uint32) api.World {
	rooms, players, items := one(seed, 1+pick(seed, 3), 1+pick(seed, 8)), 1+pick(seed, 6), pick(seed, 17)
	w := sized(rooms, make([]int, players)...)
	for room := range rooms {
		for dir := range 4 {
			w.Desc.Exits[room][dir] = pick(seed, rooms+1) - 1
		}
	}
	for p := range players {
		w.At[p] = pick(seed, rooms)
		w.Coins[p] = one(seed, 0, 3, pick(seed, maxCoins), maxCoins-3, maxCoins)
	}
	w = with(w, nested(seed, rooms, players, items)...)
	for item := range items {
		w.Desc.Boxes[item] = pick(seed, 3) > 0 || slices.Contains(w.Where, inBox(item))
	}
	return tight(w, pick(seed, 3), pick(seed, 3), pick(seed, 3))
}

// nested are places of so many items, some of them in others.
func nested(seed *uint32, rooms, players, items int) []api.Place {
	order := make([]int, items)
	for n := range order {
		other := pick(seed, n+1)
		order[n] = order[other]
		order[other] = n
	}
	where, depths := make([]api.Place, items), make([]int, items)
	for n, item := range order {
		where[item] = one(seed, inRoom(pick(seed, rooms)), inPlayer(pick(seed, players)))
		if n > 0 {
			box := order[pick(seed, n)]
			if depths[box] < 4 && pick(seed, 3) > 0 {
				where[item], depths[item] = inBox(box), depths[box]+1
			}
		}
	}
	return where
}

// tight is w in which places of each kind may hold as much as the one that has most, or had when all began, and so much more.
func tight(w api.World, room, player, box int) api.World {
	var begun []api.Place
	for _, room := range w.Desc.Items {
		begun = append(begun, inRoom(room))
	}
	most := [3]int{}
	for _, where := range [][]api.Place{w.Where, begun} {
		has := map[api.Place]int{}
		for _, at := range where {
			has[at]++
			most[at.Kind] = max(most[at.Kind], has[at])
		}
	}
	return capped(w, most[0]+room, most[1]+player, most[2]+box)
}

// itemsAt are the items at a place, directly.
func itemsAt(w api.World, place api.Place) []int {
	var items []int
	for item, at := range w.Where {
		if at == place {
			items = append(items, item)
		}
	}
	return items
}

// likely is a command of the player p that is done, or not, in one of many ways; now and then it may not be.
func likely(seed *uint32, w api.World, p int) api.Cmd {
	c := api.Cmd{Kind: 1 + pick(seed, 10)}
	who := likelyWho(seed, w, p)
	hands, floor, near := itemsAt(w, inPlayer(p)), itemsAt(w, inRoom(w.At[p])), itemsNear(w, p)
	switch c.Kind {
	case api.Move:
		c.Dir = pick(seed, 4)
	case api.Push:
		c.Who, c.Dir = who, pick(seed, 4)
	case api.Get:
		c.Item = likelyItem(seed, floor)
	case api.Drop:
		c.Item = likelyItem(seed, hands)
	case api.Put:
		c.Item, c.Box = likelyItem(seed, hands), likelyItem(seed, near)
	case api.Take:
		c.Item, c.Box = likelyItem(seed, near), likelyItem(seed, near)
		if c.Item < len(w.Where) && w.Where[c.Item].Kind == 2 && pick(seed, 4) > 0 {
			c.Box = w.Where[c.Item].Id
		}
	case api.Give:
		c.Item, c.Who = likelyItem(seed, hands), who
	case api.Trade:
		c.Who = who
		c.Gives, c.Wants = likelySide(seed, hands), likelySide(seed, itemsAt(w, inPlayer(who)))
		c.Pay, c.Fee = one(seed, 0, 0, 1, 3, pick(seed, maxCoins), maxCoins), one(seed, 0, 0, 1, 3, pick(seed, maxCoins), maxCoins)
	}
	if pick(seed, 20) == 0 {
		return spoiled(seed, c)
	}
	return c
}

// likelyWho is most often another one who is there.
func likelyWho(seed *uint32, w api.World, p int) int {
	others := slices.DeleteFunc(modelPresent(w, w.At[p]), func(q int) bool { return q == p })
	if len(others) == 0 || pick(seed, 5) == 0 {
		return pick(seed, 7)
	}
	return one(seed, others...)
}

// likelyItem is most often one of these.
func likelyItem(seed *uint32, items []int) int {
	if len(items) == 0 || pick(seed, 8) == 0 {
		return pick(seed, 17)
	}
	return one(seed, items...)
}

// itemsNear are those that are near a player.
func itemsNear(w api.World, p int) []int {
	var items []int
	for item := range w.Where {
		if modelNear(w, p, item) {
			items = append(items, item)
		}
	}
	return items
}

// likelySide is one side of a trade: most often some of these, each once.
func likelySide(seed *uint32, items []int) []int {
	items = items[:pick(seed, len(items)+1)]
	if pick(seed, 4) == 0 {
		items = append(items, likelyItem(seed, items))
	}
	return items
}

// spoiled is a command that may not be, like c.
func spoiled(seed *uint32, c api.Cmd) api.Cmd {
	switch pick(seed, 4) {
	case 0:
		c.Kind = one(seed, -1, 0, 11)
	case 1:
		c.Dir = one(seed, -1, 4)
	case 2:
		c.Item, c.Pay = 1, 1 // no kind has both
	case 3:
		c.Gives = make([]int, 17)
	}
	return c
}
