package plan

import (
	"fmt"
	"slices"
	"testing"

	"innkeep/api"
	"innkeep/desc"
)

// maxCoins is as many coins as one may have.
const maxCoins = 1 << 30

func inRoom(id int) api.Place   { return api.Place{Kind: 0, Id: id} }
func inPlayer(id int) api.Place { return api.Place{Kind: 1, Id: id} }
func inBox(id int) api.Place    { return api.Place{Kind: 2, Id: id} }

// goes, pays and lies are the changes of each kind: the player p is in a room, the player p has so many coins, an item is at a place.
func goes(p, room int) api.Write            { return api.Write{Kind: 0, Id: p, Num: room} }
func pays(p, coins int) api.Write           { return api.Write{Kind: 1, Id: p, Num: coins} }
func lies(item int, at api.Place) api.Write { return api.Write{Kind: 2, Id: item, Place: at} }

// list are changes.
func list(l ...api.Write) []api.Write {
	return l
}

// text is all that a value has; nil and empty lists are one in it.
func text(x any) string {
	return fmt.Sprintf("%+v", x)
}

// checkRight sees to it that a test speaks of a right world.
func checkRight(t *testing.T, w api.World) {
	t.Helper()
	if !desc.Right(w) {
		t.Fatalf("%+v isn't right", w)
	}
}

// inn is a right world of three rooms, four players and five items, three of them boxes; nothing in it is as it began.
func inn() api.World {
	return api.World{
		Desc: api.Desc{
			Exits:   [][4]int{{1, -1, -1, -1}, {-1, 2, 0, -1}, {-1, -1, -1, 1}},
			Players: []int{0, 0, 0, 1}, Coins: []int{50, 60, 70, 80},
			Items: []int{2, 1, 0, 2, 2}, Boxes: []bool{true, false, true, false, true},
			Room: 5, Player: 4, Box: 3,
		},
		At:    []int{1, 2, 1, 0},
		Coins: []int{5, 0, maxCoins, 7},
		Where: []api.Place{inRoom(1), inBox(0), inPlayer(1), inPlayer(3), inBox(2)},
	}
}

// at, has and where are worlds like w, but for one player's room, one player's coins, or one item's place.
func at(w api.World, p, room int) api.World {
	w = desc.Copy(w)
	w.At[p] = room
	return w
}

func has(w api.World, p, coins int) api.World {
	w = desc.Copy(w)
	w.Coins[p] = coins
	return w
}

func where(w api.World, item int, place api.Place) api.World {
	w = desc.Copy(w)
	w.Where[item] = place
	return w
}

// digits are those of n, in a system of so many digits.
func digits(n, many, length int) []int {
	list := make([]int, length)
	for i := range list {
		list[i] = n % many
		n /= many
	}
	return list
}

func power(many, length int) int {
	all := 1
	for range length {
		all *= many
	}
	return all
}

// smallWorlds are all worlds of these sizes, of one description, in which each player has no coin or one, and each item is somewhere, be it right or not.
func smallWorlds(rooms, players, items int) []api.World {
	var places []api.Place
	for kind, many := range []int{rooms, players, items} {
		for id := range many {
			places = append(places, api.Place{Kind: kind, Id: id})
		}
	}
	d := api.Desc{
		Exits: make([][4]int, rooms), Players: make([]int, players), Coins: make([]int, players),
		Items: make([]int, items), Boxes: make([]bool, items), Room: 64, Player: 64, Box: 64,
	}
	var all []api.World
	for n := range power(rooms, players) {
		for m := range power(2, players) {
			for l := range power(len(places), items) {
				w := api.World{Desc: d, At: digits(n, rooms, players), Coins: digits(m, 2, players)}
				for _, place := range digits(l, len(places), items) {
					w.Where = append(w.Where, places[place])
				}
				all = append(all, w)
			}
		}
	}
	return all
}

// allPairs calls check with all pairs of small worlds of one description.
func allPairs(check func(w, next api.World)) {
	for _, size := range [][3]int{{1, 1, 0}, {2, 1, 1}, {3, 2, 0}, {1, 1, 2}, {2, 2, 1}} {
		worlds := smallWorlds(size[0], size[1], size[2])
		for _, w := range worlds {
			for _, next := range worlds {
				check(w, next)
			}
		}
	}
}

// pick is one of so many, by a rule without much of an order.
func pick(seed *uint32, many int) int {
	*seed = *seed*1664525 + 1013904223
	return int(*seed>>8) % many
}

// one is one of a list.
func one[T any](seed *uint32, list ...T) T {
	return list[pick(seed, len(list))]
}

// largeWorld is a right world of up to eight rooms, six players and sixteen items, as it begins.
func largeWorld(t *testing.T, seed *uint32) api.World {
	t.Helper()
	rooms, players, items := 1+pick(seed, 8), 1+pick(seed, 6), pick(seed, 17)
	d := api.Desc{Room: 64, Player: 64, Box: 64}
	for id := range rooms {
		d.Exits = append(d.Exits, [4]int{id, -1, pick(seed, rooms), -1})
	}
	for range players {
		d.Players, d.Coins = append(d.Players, pick(seed, rooms)), append(d.Coins, pick(seed, maxCoins))
	}
	for range items {
		d.Items, d.Boxes = append(d.Items, pick(seed, rooms)), append(d.Boxes, pick(seed, 2) == 0)
	}
	w, err := desc.New(d)
	if err != api.OK {
		t.Fatalf("%+v may not be", d)
	}
	return w
}

// changed is a world like w, in which of some things, or of none, or all, another number or place stands, be it right or not.
func changed(seed *uint32, w api.World) api.World {
	w = desc.Copy(w)
	often := pick(seed, 5)
	for p := range w.At {
		if pick(seed, 4) < often {
			w.At[p] = one(seed, pick(seed, 8), -1, 1<<32)
		}
		if pick(seed, 4) < often {
			w.Coins[p] = one(seed, pick(seed, maxCoins), 0, maxCoins, -1)
		}
	}
	for item := range w.Where {
		if pick(seed, 4) < often {
			w.Where[item] = api.Place{Kind: one(seed, 0, 1, 2, 2, 3), Id: one(seed, pick(seed, 16), -1)}
		}
	}
	return w
}

// shuffled are these changes, in another order.
func shuffled(seed *uint32, l []api.Write) []api.Write {
	l = slices.Clone(l)
	for i := range l {
		j := i + pick(seed, len(l)-i)
		l[i], l[j] = l[j], l[i]
	}
	return l
}

// orders calls check with these changes in each order that there is.
func orders(l []api.Write, check func(l []api.Write)) {
	l = slices.Clone(l)
	var from func(i int)
	from = func(i int) {
		if i == len(l) {
			check(l)
		}
		for j := i; j < len(l); j++ {
			l[i], l[j] = l[j], l[i]
			from(i + 1)
			l[i], l[j] = l[j], l[i]
		}
	}
	from(0)
}

func checkFrom(t *testing.T, why string, w, next api.World, want ...api.Write) {
	t.Helper()
	if got := From(w, next); !slices.Equal(got, want) {
		t.Errorf("%s: From is %+v, not %+v", why, got, want)
	}
}

func checkWorld(t *testing.T, why string, got, want api.World) {
	t.Helper()
	if text(got) != text(want) {
		t.Errorf("%s: it is %+v, not %+v", why, got, want)
	}
}
