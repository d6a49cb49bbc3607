package keys

import (
	"fmt"
	"math"
	"slices"
	"testing"

	"innkeep/api"
	"innkeep/desc"
)

func room(id int) api.Key   { return api.Key{Kind: 0, Id: id} }
func player(id int) api.Key { return api.Key{Kind: 1, Id: id} }

// text is all that a value has; nil and empty lists are one in it.
func text(x any) string {
	return fmt.Sprintf("%+v", x)
}

// sized is a description of so many rooms and players. Of all else it has other numbers, so that whoever counts that instead is found out.
func sized(rooms, players int) api.Desc {
	return api.Desc{
		Exits:   make([][4]int, rooms),
		Players: make([]int, players),
		Coins:   make([]int, players+3),
		Items:   make([]int, 11),
		Boxes:   make([]bool, 13),
		Room:    2,
		Player:  1,
		Box:     5,
	}
}

// allSizes calls check with descriptions of no rooms and players up to more than there may be.
func allSizes(check func(d api.Desc, rooms, players int)) {
	for rooms := range 11 {
		for players := range 9 {
			check(sized(rooms, players), rooms, players)
		}
	}
}

// numbers are such as keys may have that there are, that there aren't, and of which the difference wraps round.
func numbers() []int {
	return []int{math.MinInt, math.MinInt + 1, -1 << 32, -3, -2, -1, 0, 1, 2, 3, 7, 8, 1 << 32, math.MaxInt - 1, math.MaxInt}
}

// pairs are keys of all these Kinds and Ids.
func pairs() []api.Key {
	var list []api.Key
	for _, kind := range numbers() {
		for _, id := range numbers() {
			list = append(list, api.Key{Kind: kind, Id: id})
		}
	}
	return list
}

// P14.1, Less

func TestLess(t *testing.T) {
	for _, x := range []struct {
		why  string
		a, b api.Key
		want bool
	}{
		{"a room and a player, one Id", room(1), player(1), true},
		{"a player and a room, one Id", player(1), room(1), false},
		{"a room and a player, the Ids the other way", room(7), player(0), true},
		{"a player and a room, the Ids the other way", player(0), room(7), false},
		{"a room and a player, the Ids likewise", room(0), player(5), true},
		{"a player and a room, the Ids likewise", player(5), room(0), false},
		{"two rooms", room(2), room(3), true},
		{"two rooms, the other way", room(3), room(2), false},
		{"two rooms far from each other", room(0), room(7), true},
		{"two rooms far from each other, the other way", room(7), room(0), false},
		{"two players", player(2), player(3), true},
		{"two players, the other way", player(3), player(2), false},
		{"two players far from each other", player(0), player(5), true},
		{"two players far from each other, the other way", player(5), player(0), false},
		{"a room and itself", room(4), room(4), false},
		{"a player and itself", player(4), player(4), false},
		{"a zero one and itself", api.Key{}, api.Key{}, false},
		{"Ids below 0", room(-2), room(-1), true},
		{"Ids below 0, the other way", room(-1), room(-2), false},
		{"an Id below 0, of a player", player(-1), player(0), true},
		{"a room, and a player below 0", room(0), player(-1), true},
		{"a Kind below 0", api.Key{Kind: -1, Id: 9}, room(0), true},
		{"a Kind below 0, the other way", room(0), api.Key{Kind: -1, Id: 9}, false},
		{"a player, and a Kind above", player(9), api.Key{Kind: 2}, true},
		{"a player, and a Kind above, the other way", api.Key{Kind: 2}, player(9), false},
		{"Kinds of which the difference wraps round", api.Key{Kind: math.MinInt}, api.Key{Kind: math.MaxInt}, true},
		{"the same, the other way", api.Key{Kind: math.MaxInt}, api.Key{Kind: math.MinInt}, false},
		{"Ids of which the difference wraps round", player(math.MinInt), player(math.MaxInt), true},
		{"the same, the other way", player(math.MaxInt), player(math.MinInt), false},
	} {
		if got := Less(x.a, x.b); got != x.want {
			t.Errorf("%s: Less of %v, %v is %v", x.why, x.a, x.b, got)
		}
	}
}

// TestLessOfAllPairs goes by the order in which pairs are made, which is the chapter's: by the Kinds, and then by the Ids.
func TestLessOfAllPairs(t *testing.T) {
	all := pairs()
	for i, a := range all {
		for j, b := range all {
			if got := Less(a, b); got != (i < j) {
				t.Errorf("Less of %v, %v is %v", a, b, got)
			}
		}
	}
}

// P14.1, Sort

func checkSort(t *testing.T, list []api.Key, want ...api.Key) {
	t.Helper()
	if got := Sort(list...); !slices.Equal(got, want) {
		t.Errorf("Sort of %v is %v, not %v", list, got, want)
	}
}

func TestSortOfNone(t *testing.T) {
	if got := Sort(); len(got) != 0 {
		t.Errorf("Sort of none is %v", got)
	}
	checkSort(t, nil)
	checkSort(t, []api.Key{})
	checkSort(t, []api.Key{room(1), room(0)}[:0])
}

func TestSortOfOne(t *testing.T) {
	for _, k := range pairs() {
		checkSort(t, []api.Key{k}, k)
		checkSort(t, []api.Key{k, k}, k)
		checkSort(t, []api.Key{k, k, k, k, k}, k)
	}
}

func TestSort(t *testing.T) {
	for _, x := range []struct {
		why  string
		list []api.Key
		want []api.Key
	}{
		{"rising", []api.Key{room(0), room(1), player(0)}, []api.Key{room(0), room(1), player(0)}},
		{"falling", []api.Key{player(1), player(0), room(1), room(0)}, []api.Key{room(0), room(1), player(0), player(1)}},
		{"by the Kinds first", []api.Key{player(0), room(7)}, []api.Key{room(7), player(0)}},
		{"one Id, two Kinds", []api.Key{player(2), room(2)}, []api.Key{room(2), player(2)}},
		{"one behind itself", []api.Key{room(1), room(1), room(0)}, []api.Key{room(0), room(1)}},
		{"one far behind itself", []api.Key{room(1), player(0), room(0), room(1)}, []api.Key{room(0), room(1), player(0)}},
		{"each twice", []api.Key{player(0), room(1), player(0), room(1)}, []api.Key{room(1), player(0)}},
		{"the zero one more than once", []api.Key{{}, player(0), {}}, []api.Key{{}, player(0)}},
		{"Ids below 0", []api.Key{room(0), room(-1), player(-7), room(-7)}, []api.Key{room(-7), room(-1), room(0), player(-7)}},
		{"Kinds below 0", []api.Key{room(0), {Kind: -1, Id: 5}, {Kind: -2, Id: 6}, {Kind: -1, Id: 4}}, []api.Key{{Kind: -2, Id: 6}, {Kind: -1, Id: 4}, {Kind: -1, Id: 5}, room(0)}},
		{"places that there aren't", []api.Key{player(1000), {Kind: 2, Id: 3}, room(1000), player(5)}, []api.Key{room(1000), player(5), player(1000), {Kind: 2, Id: 3}}},
		{"what wraps round", []api.Key{room(math.MaxInt), room(0), room(math.MinInt)}, []api.Key{room(math.MinInt), room(0), room(math.MaxInt)}},
	} {
		if got := Sort(x.list...); !slices.Equal(got, x.want) {
			t.Errorf("%s: Sort of %v is %v, not %v", x.why, x.list, got, x.want)
		}
	}
}

// allOrders calls check with the list in each of its orders.
func allOrders(list []api.Key, from int, check func([]api.Key)) {
	if from == len(list) {
		check(list)
		return
	}
	for i := from; i < len(list); i++ {
		list[from], list[i] = list[i], list[from]
		allOrders(list, from+1, check)
		list[from], list[i] = list[i], list[from]
	}
}

func TestSortInWhateverOrder(t *testing.T) {
	rising := []api.Key{{Kind: -1, Id: 2}, room(-1), room(0), room(3), player(1), {Kind: 2, Id: -5}}
	for most := range len(rising) + 1 {
		want := rising[:most]
		allOrders(slices.Clone(want), 0, func(list []api.Key) { checkSort(t, list, want...) })
	}
	allOrders([]api.Key{room(0), room(3), room(3), player(1), player(1), player(1)}, 0, func(list []api.Key) {
		checkSort(t, list, room(0), room(3), player(1))
	})
}

// TestSortOfAllShortLists goes through all lists of at most five keys of these four: with each of them as often as not.
func TestSortOfAllShortLists(t *testing.T) {
	rising := []api.Key{room(0), room(1), player(0), player(1)}
	for length := range 6 {
		total := 1
		for range length {
			total *= len(rising)
		}
		for n := range total {
			var list, want []api.Key
			for range length {
				list = append(list, rising[n%len(rising)])
				n /= len(rising)
			}
			for _, k := range rising {
				if slices.Contains(list, k) {
					want = append(want, k)
				}
			}
			checkSort(t, list, want...)
		}
	}
}

func TestSortOfMany(t *testing.T) {
	want := pairs() // 225 of them
	for step := 1; step < 225; step++ {
		if step%3 == 0 || step%5 == 0 {
			continue // 225 is 3 * 3 * 5 * 5: of other steps all keys are met before the first one is again
		}
		var list []api.Key
		for i := range 2 * len(want) {
			list = append(list, want[i*step%len(want)])
		}
		checkSort(t, list, want...)
	}
}

// TestSortIsTheSameEachTime would find out a sort that leaves keys in the order in which a map hands them out.
func TestSortIsTheSameEachTime(t *testing.T) {
	list := []api.Key{player(5), room(7), player(3), room(2), room(4), player(0), room(0), player(1)}
	for range 200 {
		checkSort(t, list, room(0), room(2), room(4), room(7), player(0), player(1), player(3), player(5))
	}
}

// P14.2

func TestMany(t *testing.T) {
	if got := Many(api.Desc{}); got != 0 {
		t.Errorf("Many of a zero description is %d", got)
	}
	allSizes(func(d api.Desc, rooms, players int) {
		if got := Many(d); got != rooms+players {
			t.Errorf("Many of %d rooms and %d players is %d", rooms, players, got)
		}
	})
}

func checkPlace(t *testing.T, d api.Desc, k api.Key, want int) {
	t.Helper()
	if got := Place(d, k); got != want {
		t.Errorf("Place of %v is %d, not %d, of %d rooms and %d players", k, got, want, len(d.Exits), len(d.Players))
	}
}

// checkAt holds At against this key, or, where none is told, against a zero one and false.
func checkAt(t *testing.T, d api.Desc, place int, want ...api.Key) {
	t.Helper()
	var key api.Key
	if len(want) > 0 {
		key = want[0]
	}
	if got, ok := At(d, place); got != key || ok != (len(want) > 0) {
		t.Errorf("At of %d is %v, %v, not %v, of %d rooms and %d players", place, got, ok, want, len(d.Exits), len(d.Players))
	}
}

func TestThePlaceOfThePlayer0OfTwoRooms(t *testing.T) {
	d := sized(2, 1)
	checkPlace(t, d, player(0), 2)
	checkAt(t, d, 2, player(0))
}

func TestPlaceOfTheFirstAndTheLast(t *testing.T) {
	d := sized(8, 6)
	checkPlace(t, d, room(0), 0)
	checkPlace(t, d, room(7), 7)
	checkPlace(t, d, player(0), 8)
	checkPlace(t, d, player(5), 13)
	d = sized(1, 1)
	checkPlace(t, d, room(0), 0)
	checkPlace(t, d, player(0), 1)
}

func TestPlaceOfNone(t *testing.T) {
	d := sized(3, 5) // more players than rooms, so that the limit of the one isn't taken for the other's
	for _, k := range []api.Key{room(-1), room(3), room(4), player(-1), player(5), player(6), player(-3), player(-2)} {
		checkPlace(t, d, k, -1)
	}
	d = sized(5, 3)
	for _, k := range []api.Key{room(-1), room(5), room(6), player(-1), player(3), player(4), player(-5), player(-4)} {
		checkPlace(t, d, k, -1)
	}
	for _, kind := range numbers() {
		if kind == 0 || kind == 1 {
			continue
		}
		for id := -9; id < 9; id++ {
			checkPlace(t, d, api.Key{Kind: kind, Id: id}, -1)
		}
	}
	checkPlace(t, api.Desc{}, room(0), -1)
	checkPlace(t, api.Desc{}, player(0), -1)
}

func TestAtOfTheFirstAndTheLast(t *testing.T) {
	d := sized(8, 6)
	checkAt(t, d, -1)
	checkAt(t, d, 0, room(0))
	checkAt(t, d, 7, room(7))
	checkAt(t, d, 8, player(0))
	checkAt(t, d, 13, player(5))
	checkAt(t, d, 14)
	for _, n := range []int{math.MinInt, math.MinInt + 1, -1 << 32, -8, 15, 1 << 32, 1<<32 + 1, math.MaxInt - 1, math.MaxInt} {
		checkAt(t, d, n)
	}
}

func TestRoomsAlone(t *testing.T) {
	d := sized(2, 0)
	checkPlace(t, d, room(1), 1)
	checkPlace(t, d, player(0), -1)
	checkAt(t, d, 1, room(1))
	checkAt(t, d, 2)
}

func TestPlayersAlone(t *testing.T) {
	d := sized(0, 2)
	checkPlace(t, d, room(0), -1)
	checkPlace(t, d, player(0), 0)
	checkPlace(t, d, player(1), 1)
	checkAt(t, d, 0, player(0))
	checkAt(t, d, 1, player(1))
	checkAt(t, d, 2)
}

func TestAllPlaces(t *testing.T) {
	allSizes(func(d api.Desc, rooms, players int) {
		place := 0
		for id := range rooms {
			checkPlace(t, d, room(id), place)
			checkAt(t, d, place, room(id))
			place++
		}
		for id := range players {
			checkPlace(t, d, player(id), place)
			checkAt(t, d, place, player(id))
			place++
		}
		checkAt(t, d, -1)
		checkAt(t, d, place)
	})
}

func TestAtAndPlaceAreOneThereAndBack(t *testing.T) {
	allSizes(func(d api.Desc, rooms, players int) {
		for place := -3; place < rooms+players+3; place++ {
			k, ok := At(d, place)
			if ok != (place >= 0 && place < rooms+players) {
				t.Errorf("At of %d is %v, %v, of %d rooms and %d players", place, k, ok, rooms, players)
			}
			if ok {
				checkPlace(t, d, k, place)
			}
		}
		for _, k := range pairs() {
			if place := Place(d, k); place >= 0 {
				checkAt(t, d, place, k)
			}
		}
	})
}

func TestPlacesOfADescriptionThatMayBe(t *testing.T) {
	d := api.Desc{
		Exits:   [][4]int{{1, -1, -1, -1}, {-1, -1, 0, 2}, {2, 2, 2, 2}},
		Players: []int{2, 0},
		Coins:   []int{5, 2},
		Items:   []int{0, 1, 1, 2},
		Boxes:   []bool{true, false, true, false},
		Room:    16, Player: 2, Box: 1,
	}
	if !desc.May(d) {
		t.Fatalf("%+v may not be", d)
	}
	for place, k := range []api.Key{room(0), room(1), room(2), player(0), player(1)} {
		checkPlace(t, d, k, place)
		checkAt(t, d, place, k)
	}
	if got := Many(d); got != 5 {
		t.Errorf("Many is %d", got)
	}
	checkPlace(t, d, room(3), -1)
	checkPlace(t, d, player(2), -1)
	checkAt(t, d, 5)
}

// P14.3

func TestKeysRiseAsTheirPlacesDo(t *testing.T) {
	allSizes(func(d api.Desc, rooms, players int) {
		for i := range Many(d) {
			for j := range Many(d) {
				a, _ := At(d, i)
				b, _ := At(d, j)
				if Less(a, b) != (i < j) {
					t.Errorf("Less of %v, %v is %v, and their places are %d, %d", a, b, Less(a, b), i, j)
				}
			}
		}
	})
}

func TestPlacesRiseAsTheirKeysDo(t *testing.T) {
	allSizes(func(d api.Desc, rooms, players int) {
		var there []api.Key
		for _, k := range pairs() {
			if Place(d, k) >= 0 {
				there = append(there, k)
			}
		}
		for _, a := range there {
			for _, b := range there {
				if (Place(d, a) < Place(d, b)) != Less(a, b) || (Place(d, a) == Place(d, b)) != (a == b) {
					t.Errorf("%v, %v have the places %d, %d, and Less is %v", a, b, Place(d, a), Place(d, b), Less(a, b))
				}
			}
		}
	})
}

func TestSortedKeysHaveRisingPlaces(t *testing.T) {
	allSizes(func(d api.Desc, rooms, players int) {
		var list []api.Key
		for place := Many(d) - 1; place >= 0; place-- {
			k, _ := At(d, place)
			list = append(list, k, k)
		}
		sorted := Sort(list...)
		if len(sorted) != rooms+players {
			t.Errorf("Sort of %v is %v", list, sorted)
		}
		for place, k := range sorted {
			checkPlace(t, d, k, place)
		}
	})
}

// P14.4

// roomy is a list like this one, with room behind its length in which something stands.
func roomy[T any](list []T, behind T) []T {
	return append(slices.Clone(list), behind, behind, behind)[:len(list)]
}

// whole is a list with the room behind its length.
func whole[T any](list []T) []T {
	return list[:cap(list)]
}

// fill writes all over a list, the room behind its length included.
func fill[T any](list []T, with T) {
	for i := range whole(list) {
		whole(list)[i] = with
	}
}

// given are lists of keys in several orders, with room behind each, in which keys stand that are in none.
func given() [][]api.Key {
	behind := player(77)
	return [][]api.Key{
		roomy(nil, behind),
		roomy([]api.Key{room(1)}, behind),
		roomy([]api.Key{room(0), room(1), player(0), player(1)}, behind),
		roomy([]api.Key{player(1), player(0), room(1), room(0)}, behind),
		roomy([]api.Key{player(1), room(1), player(1), room(1), room(1)}, behind),
		roomy([]api.Key{{Kind: -1, Id: 2}, room(9), {Kind: 3}, room(-4), room(9), room(9)}, behind),
		roomy(pairs(), behind),
	}
}

func TestSortLeavesWhatIsHandedIn(t *testing.T) {
	for _, list := range given() {
		before := text(whole(list))
		got := Sort(list...)
		if after := text(whole(list)); after != before {
			t.Errorf("the keys became %s, and were %s", after, before)
		}
		if slices.Contains(got, player(77)) {
			t.Errorf("what stands behind the list is in %v", got)
		}
		fill(got, api.Key{Kind: -9, Id: -9})
		if after := text(whole(list)); after != before {
			t.Errorf("by writing into what is answered the keys became %s, and were %s", after, before)
		}
		_ = append(got, api.Key{Kind: -8, Id: -8})
		if after := text(whole(list)); after != before {
			t.Errorf("by adding to what is answered the keys became %s, and were %s", after, before)
		}
	}
}

func TestWhatSortAnsweredStays(t *testing.T) {
	for _, list := range given() {
		first, second := Sort(list...), Sort(list...)
		before := text(first)
		fill(list, api.Key{Kind: -9, Id: -9})
		if after := text(first); after != before {
			t.Errorf("by writing into what was handed in the answer became %s, and was %s", after, before)
		}
		fill(second, api.Key{Kind: -8, Id: -8})
		if after := text(first); after != before {
			t.Errorf("by writing into another answer the answer became %s, and was %s", after, before)
		}
	}
}

// roomyDesc is a description of two rooms and three players, with room behind all its lists.
func roomyDesc() api.Desc {
	return api.Desc{
		Exits:   roomy([][4]int{{1, -1, 0, 1}, {-1, 0, 1, -1}}, [4]int{7, 7, 7, 7}),
		Players: roomy([]int{1, 0, 1}, 7),
		Coins:   roomy([]int{5, 2, 9}, 7),
		Items:   roomy([]int{0, 1}, 7),
		Boxes:   roomy([]bool{true, false}, true),
		Room:    16, Player: 2, Box: 1,
	}
}

// descText is all that a description has, the room behind its lists included.
func descText(d api.Desc) string {
	return text(d) + text(whole(d.Exits)) + text(whole(d.Players)) + text(whole(d.Coins)) + text(whole(d.Items)) + text(whole(d.Boxes))
}

func TestDescriptionsStay(t *testing.T) {
	d := roomyDesc()
	before := descText(d)
	if got := Many(d); got != 5 {
		t.Errorf("Many is %d: what stands behind the lists is none", got)
	}
	for n := -3; n < 9; n++ {
		At(d, n)
		for kind := -1; kind < 4; kind++ {
			Place(d, api.Key{Kind: kind, Id: n})
		}
		if after := descText(d); after != before {
			t.Fatalf("the description became %s, and was %s", after, before)
		}
	}
	checkPlace(t, d, room(2), -1) // it would be one, if what stands behind the lists were looked at
	checkPlace(t, d, player(3), -1)
	checkAt(t, d, 5)
}

func TestNothingIsKeptOfADescription(t *testing.T) {
	d := roomyDesc()
	checkPlace(t, d, player(2), 4)
	checkPlace(t, sized(4, 1), player(0), 4)
	checkPlace(t, sized(4, 1), player(2), -1)
	checkAt(t, sized(0, 1), 0, player(0))
	checkAt(t, d, 4, player(2))
	d.Exits = d.Exits[:1] // one and the same memory, and a room less
	checkPlace(t, d, player(2), 3)
	checkAt(t, d, 3, player(2))
	checkAt(t, d, 4)
	if got := Many(d); got != 4 {
		t.Errorf("Many is %d", got)
	}
}
