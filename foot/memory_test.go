package foot

import (
	"math"
	"slices"
	"testing"

	"innkeep/api"
)

// What is handed in stays, and what is answered is new memory.

// roomy is a list like this one, with room behind its length in which something stands.
func roomy[T any](list []T, behind T) []T {
	return append(slices.Clone(list), behind, behind, behind)[:len(list)]
}

// whole is a list with the room behind its length.
func whole[T any](list []T) []T {
	return list[:cap(list)]
}

// fill writes all over a list, the room behind its length included.
func fill[T any](list []T, with T) {
	for i := range whole(list) {
		whole(list)[i] = with
	}
}

// roomyWorld is a world with such room behind all its lists; what stands there would tell, if it were looked at.
func roomyWorld(w api.World) api.World {
	d := &w.Desc
	d.Exits = roomy(d.Exits, [4]int{1, 1, 1, 1})
	d.Players, d.Coins, d.Items, d.Boxes = roomy(d.Players, 0), roomy(d.Coins, 7), roomy(d.Items, 0), roomy(d.Boxes, true)
	w.At, w.Coins, w.Where = roomy(w.At, 0), roomy(w.Coins, 7), roomy(w.Where, inPlayer(1))
	return w
}

// worldText is all that a world has, the room behind its lists included.
func worldText(w api.World) string {
	d := w.Desc
	return text(w) + text(whole(d.Exits)) + text(whole(d.Players)) + text(whole(d.Coins)) + text(whole(d.Items)) + text(whole(d.Boxes)) +
		text(whole(w.At)) + text(whole(w.Coins)) + text(whole(w.Where))
}

// cmdText is all that a command has, the room behind its lists included.
func cmdText(c api.Cmd) string {
	return text(c) + text(whole(c.Gives)) + text(whole(c.Wants))
}

// kinds are commands of all kinds, with room behind all lists.
func kinds() []api.Cmd {
	all := []api.Cmd{
		{Kind: 1}, {Kind: 1, Dir: 2}, {Kind: 2, Who: 2, Dir: 3}, {Kind: 2, Who: 6}, {Kind: 3, Item: 6}, {Kind: 4, Item: 2}, {Kind: 5, Item: 11, Box: 7},
		{Kind: 6, Item: 7, Box: 6}, {Kind: 7, Item: 2, Who: 2}, swap(2, []int{11, 2}, 3, []int{5}, 1), swap(0, nil, 0, []int{10}, 0), {Kind: 9}, {Kind: 10},
	}
	for i := range all {
		all[i].Gives, all[i].Wants = roomy(all[i].Gives, 9), roomy(all[i].Wants, 9)
	}
	return all
}

func spoilWorld(w api.World) {
	fill(w.Desc.Exits, [4]int{-9, -9, -9, -9})
	fill(w.Desc.Players, -9)
	fill(w.Desc.Coins, -9)
	fill(w.Desc.Items, -9)
	fill(w.Desc.Boxes, false)
	fill(w.At, -9)
	fill(w.Coins, -9)
	fill(w.Where, api.Place{Kind: -9, Id: -9})
}

func TestOfLeavesWhatIsHandedIn(t *testing.T) {
	w := roomyWorld(house())
	want := worldText(w)
	for _, c := range kinds() {
		wantCmd := cmdText(c)
		for p := range w.At {
			got := Of(w, p, c)
			if now := worldText(w) + cmdText(c); now != want+wantCmd {
				t.Fatalf("what was handed in became %s, and was %s", now, want+wantCmd)
			}
			fill(got, api.Key{Kind: -9, Id: -9})
			_ = append(got, room(-8))
			if now := worldText(w) + cmdText(c); now != want+wantCmd {
				t.Fatalf("by writing into what is answered what was handed in became %s, and was %s", now, want+wantCmd)
			}
			if got := Of(w, p, c); !slices.Equal(got, modelOf(w, p, c)) {
				t.Errorf("by writing into what was answered Of %d, %+v became %v", p, c, got)
			}
		}
	}
}

func TestWhatOfAnsweredStays(t *testing.T) {
	for _, c := range kinds() {
		w := roomyWorld(house())
		want := modelOf(w, 1, c)
		first, second := Of(w, 1, c), Of(w, 1, c)
		fill(second, api.Key{Kind: -9, Id: -9})
		if !slices.Equal(first, want) {
			t.Errorf("by writing into another answer an answer became %v, and was %v", first, want)
		}
		spoilWorld(w)
		fill(c.Gives, -9)
		fill(c.Wants, -9)
		if !slices.Equal(first, want) {
			t.Errorf("by writing into what was handed in an answer became %v, and was %v", first, want)
		}
		Of(house(), 4, api.Cmd{Kind: 1})
		if !slices.Equal(first, want) {
			t.Errorf("by another call an answer became %v, and was %v", first, want)
		}
	}
}

func TestCoversLeavesWhatIsHandedIn(t *testing.T) {
	w := roomyWorld(house())
	next := roomyWorld(changed(t, w, goes(1, 7), pays(2, 3), brings(7, inPlayer(2)), brings(2, inRoom(0))))
	want, wantNext := worldText(w), worldText(next)
	for _, keys := range [][]api.Key{nil, keysOf(w), list(room(0)), list(player(2), room(0), player(1), room(0)), list(player(2), player(1))} {
		l := roomy(keys, room(7))
		wantKeys := text(whole(l))
		Covers(l, w, next)
		Covers(l, next, w)
		Covers(l, w, w)
		if got := worldText(w) + worldText(next) + text(whole(l)); got != want+wantNext+wantKeys {
			t.Fatalf("what was handed in became %s, and was %s", got, want+wantNext+wantKeys)
		}
	}
}

func TestWhatStandsBehindListsIsNotLookedAt(t *testing.T) {
	w := roomyWorld(house())
	w.At, w.Coins, w.Desc.Players, w.Desc.Coins = w.At[:3], w.Coins[:3], w.Desc.Players[:3], w.Desc.Coins[:3]
	w.Where, w.Desc.Items, w.Desc.Boxes = w.Where[:8], w.Desc.Items[:8], w.Desc.Boxes[:8]
	checkRight(t, w)
	checkOf(t, "a player behind", w, 1, api.Cmd{Kind: 2, Who: 3}, room(0), room(1), player(1))
	checkOf(t, "a player behind", w, 1, api.Cmd{Kind: 7, Who: 4}, room(0), player(1))
	checkOf(t, "a player behind", w, 1, swap(5, nil, 0, nil, 0), room(0), player(1))
	next := roomyWorld(changed(t, w, goes(0, 5)))
	w.At[:4][3], w.Coins[:4][3], w.Where[:9][8] = 6, 6, inRoom(6)
	checkCovers(t, "other things behind", w, next, player(0))
	l := append(list(room(5)), player(0))[:1]
	checkOneCovers(t, "a key behind", l, w, next, false)
	checkOneCovers(t, "a key behind no key", l[:0], w, next, false)
}

func TestCallsHangOnTheirArgumentsAlone(t *testing.T) {
	w, next := house(), changed(t, house(), goes(1, 7), brings(9, inPlayer(2)))
	l := list(player(1), room(7), player(2))
	for _, c := range kinds() {
		for p := range w.At {
			want := Of(w, p, c)
			Of(next, 5-p, c)
			Covers(want, w, next)
			Of(sized(1, 0), 0, c)
			for range 20 {
				if got := Of(w, p, c); !slices.Equal(got, want) {
					t.Fatalf("Of %d, %+v is %v, and was %v", p, c, got, want)
				}
			}
			checkOneCovers(t, "once more", l, w, next, true)
			checkOneCovers(t, "once more", l[:2], w, next, false)
			checkOneCovers(t, "the same", nil, next, next, true)
		}
	}
}

// Whatever is handed in, calls end, and none panics.

// numbers are small ones, and such as are beyond all limits.
func numbers() []int {
	return []int{math.MinInt, -1 << 32, -2, -1, 0, 1, 2, 3, 5, 6, 7, 8, 15, 16, 1 << 30, 1 << 32, math.MaxInt}
}

// wrongWorlds are worlds that aren't right, for the most part.
func wrongWorlds() []api.World {
	odd, lost, few, poor, bare, plain, many := house(), house(), house(), house(), house(), house(), house()
	n := numbers()
	odd.At = []int{-1, 8, math.MaxInt, math.MinInt, 0, 1}
	odd.Coins = []int{-1, math.MaxInt, math.MinInt, maxCoins + 1, 0, 1}
	for item := range lost.Where {
		lost.Where[item] = api.Place{Kind: n[item%len(n)], Id: n[len(n)-1-item%len(n)]}
	}
	few.At = few.At[:2]
	poor.Coins = poor.Coins[:1]
	bare.Where = nil
	plain.Desc.Boxes, plain.Desc.Exits = nil, plain.Desc.Exits[:1]
	plain.Desc.Exits[0] = [4]int{-2, 9, math.MaxInt, math.MinInt}
	many.At, many.Coins, many.Where = make([]int, 40), make([]int, 40), slices.Repeat([]api.Place{inRoom(0), inPlayer(0), inPlayer(1), inBox(1)}, 10)
	knot := with(sized(1, 0, 0), inBox(1), inBox(0), inBox(2), inBox(math.MaxInt), inPlayer(-1), inPlayer(7), inPlayer(0), inPlayer(1), inRoom(0))
	return []api.World{{}, {At: []int{0, 0}}, {Coins: []int{5}}, {Where: []api.Place{{}, {Kind: 2}}}, {Desc: house().Desc}, house(), odd, lost, few, poor, bare, plain, many, knot}
}

func TestWrongArgumentsEndAndDoNotPanic(t *testing.T) {
	worlds := wrongWorlds()
	for _, w := range worlds {
		want := text(w)
		for _, p := range numbers() {
			for kind := -1; kind <= 11; kind++ {
				for _, n := range numbers() {
					Of(w, p, api.Cmd{Kind: kind, Dir: n, Who: n, Item: n, Box: n, Pay: n, Fee: n, Gives: []int{n}, Wants: []int{n}})
					Of(w, p, api.Cmd{Kind: kind, Dir: n & 3, Who: n})
				}
			}
		}
		for _, next := range worlds {
			Covers(nil, w, next)
			Covers(keysOf(house()), w, next)
			Covers(list(api.Key{Kind: math.MinInt, Id: math.MaxInt}), w, next)
		}
		if got := text(w); got != want {
			t.Errorf("the world became %s, and was %s", got, want)
		}
	}
}

func TestPlayersThatThereAreNotHaveNoFootprint(t *testing.T) {
	for _, p := range []int{math.MinInt, -1, 6, 7, 8, 1 << 32, math.MaxInt} {
		for _, c := range kinds() {
			if got := Of(house(), p, c); len(got) != 0 {
				t.Errorf("Of %d, %+v is %v", p, c, got)
			}
		}
	}
}
