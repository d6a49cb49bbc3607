package foot

import (
	"slices"
	"testing"

	"innkeep/api"
	"innkeep/atom"
	"innkeep/cmd"
	"innkeep/desc"
	"innkeep/reply"
)

// P16.2

// tally counts what a test has met, so that none tells of nothing.
type tally struct {
	done   [11]int // by kind
	failed [14]int // by error
}

func (n *tally) add(c api.Cmd, r api.Reply) {
	if r.Err == api.OK {
		n.done[c.Kind]++
	} else {
		n.failed[r.Err]++
	}
}

// checkMany sees to it that each kind was done so often, and that each of the errors that a command which may be is answered with was met.
func (n *tally) checkMany(t *testing.T, often int) {
	t.Helper()
	for kind := 1; kind <= 10; kind++ {
		if n.done[kind] < often {
			t.Errorf("the kind %d was done %d times", kind, n.done[kind])
		}
	}
	for err := api.ErrNone; err <= api.MaxErr; err++ {
		if n.failed[err] == 0 {
			t.Errorf("the error %d was never answered", err)
		}
	}
}

// checkCovered does a command of a player, and sees to it that its footprint covers what changed.
func checkCovered(t *testing.T, w api.World, p int, c api.Cmd) (api.World, api.Reply) {
	t.Helper()
	if !cmd.May(c) {
		t.Fatalf("%+v may not be", c)
	}
	next, r := atom.Do(w, p, c)
	l := Of(w, p, c)
	if !Covers(l, w, next) {
		t.Errorf("%+v of %d, whose footprint is %v, makes %v, %v, %v of %v, %v, %v", c, p, l, next.At, next.Coins, next.Where, w.At, w.Coins, w.Where)
	}
	if !modelCovers(modelOf(w, p, c), modelNeed(w, next)) {
		t.Errorf("%+v of %d: the model's footprint doesn't cover %v, %v, %v of %v, %v, %v", c, p, next.At, next.Coins, next.Where, w.At, w.Coins, w.Where)
	}
	return next, r
}

func TestAFootprintCoversWhatItsCommandChanges(t *testing.T) {
	w := house()
	for _, x := range []struct {
		why  string
		p    int
		c    api.Cmd
		need []api.Key // what changes is under these
	}{
		{"move", 1, api.Cmd{Kind: 1, Dir: 3}, list(player(1))},
		{"move into the room where one is", 1, api.Cmd{Kind: 1, Dir: 1}, nil},
		{"push", 1, api.Cmd{Kind: 2, Who: 2}, list(player(2))},
		{"push of one elsewhere", 1, api.Cmd{Kind: 2, Who: 3}, nil},
		{"get", 3, api.Cmd{Kind: 3, Item: 9}, list(room(7), player(3))},
		{"drop", 1, api.Cmd{Kind: 4, Item: 2}, list(room(0), player(1))},
		{"put in a box on the floor", 2, api.Cmd{Kind: 5, Item: 5, Box: 7}, list(room(0), player(2))},
		{"put in a box of one's own", 1, api.Cmd{Kind: 5, Item: 11, Box: 4}, list(player(1))},
		{"take out of a box on the floor", 2, api.Cmd{Kind: 6, Item: 7, Box: 6}, list(room(0), player(2))},
		{"take out of a box of one's own", 1, api.Cmd{Kind: 6, Item: 4, Box: 3}, list(player(1))},
		{"give", 1, api.Cmd{Kind: 7, Item: 2, Who: 2}, list(player(1), player(2))},
		{"trade of items", 2, swap(1, []int{5}, 0, []int{2, 11}, 0), list(player(1), player(2))},
		{"trade of coins", 2, swap(1, nil, 3, nil, 1), list(player(1), player(2))},
		{"look", 1, api.Cmd{Kind: 9}, nil},
		{"own", 1, api.Cmd{Kind: 10}, nil},
	} {
		next, _ := checkCovered(t, w, x.p, x.c)
		checkCovers(t, x.why, w, next, x.need...)
		for _, k := range x.need {
			if !slices.Contains(Of(w, x.p, x.c), k) {
				t.Errorf("%s: %v isn't in the footprint", x.why, k)
			}
		}
	}
}

func TestFootprintsCoverInAllSmallWorlds(t *testing.T) {
	for _, size := range [][3]int{{2, 1, 2}, {1, 2, 2}, {2, 2, 2}, {2, 3, 1}} {
		for _, w := range smallWorlds(size[0], size[1], size[2]) {
			for p := range w.At {
				for _, c := range smallCommands() {
					checkCovered(t, w, p, c)
				}
			}
		}
	}
}

func TestFootprintsCoverInManyWorlds(t *testing.T) {
	seed, met := uint32(61), tally{}
	for range 2000 {
		w := largeWorld(&seed)
		for range 20 { // on from world to world, as commands make them
			p := pick(&seed, len(w.At))
			c := likely(&seed, w, p)
			next, r := checkCovered(t, w, p, c)
			met.add(c, r)
			w = next
		}
	}
	met.checkMany(t, 300)
}

// carried is the world v in which all that is another one in next than in w is as it is in next.
func carried(w, next, v api.World) api.World {
	made := desc.Copy(v)
	for p := range w.At {
		if w.At[p] != next.At[p] {
			made.At[p] = next.At[p]
		}
		if w.Coins[p] != next.Coins[p] {
			made.Coins[p] = next.Coins[p]
		}
	}
	for item := range w.Where {
		if w.Where[item] != next.Where[item] {
			made.Where[item] = next.Where[item]
		}
	}
	return made
}

// isSameUnder tells whether the same is under these keys in both: the same players, whose keys or whose rooms' keys are in the list, and the same items that hang from its rooms and players.
func isSameUnder(l []api.Key, w, v api.World) bool {
	for p := range w.At {
		isUnder := slices.Contains(l, player(p)) || slices.Contains(l, room(w.At[p]))
		if isUnder != (slices.Contains(l, player(p)) || slices.Contains(l, room(v.At[p]))) {
			return false
		}
		if isUnder && (w.At[p] != v.At[p] || w.Coins[p] != v.Coins[p]) {
			return false
		}
	}
	for item := range w.Where {
		isUnder := slices.Contains(l, modelRoot(w, item))
		if isUnder != slices.Contains(l, modelRoot(v, item)) || isUnder && w.Where[item] != v.Where[item] {
			return false
		}
	}
	return true
}

// checkSameElsewhere does one command in two worlds in which the same is under its footprint: it has the same footprint in both, is answered the same, and changes the same.
func checkSameElsewhere(t *testing.T, w, v api.World, p int, c api.Cmd) api.Reply {
	t.Helper()
	if got, want := Of(v, p, c), Of(w, p, c); !slices.Equal(got, want) {
		t.Errorf("Of %d, %+v is %v in %+v, and %v in %+v", p, c, want, w, got, v)
	}
	next, r := atom.Do(w, p, c)
	made, other := atom.Do(v, p, c)
	if !reply.Same(r, other) {
		t.Errorf("%+v of %d is answered %+v in %+v, and %+v in %+v", c, p, r, w, other, v)
	}
	if want := carried(w, next, v); !desc.Same(made, want) {
		t.Errorf("%+v of %d makes %v, %v, %v of %+v, not %v, %v, %v, as of %+v", c, p, made.At, made.Coins, made.Where, v, want.At, want.Coins, want.Where, w)
	}
	return r
}

// TestWhatIsElsewhereTellsNothing has one command of each kind in the house, and in others in which what isn't under its footprint differs.
func TestWhatIsElsewhereTellsNothing(t *testing.T) {
	w := house()
	seed := uint32(5)
	for _, c := range []api.Cmd{
		{Kind: 1}, {Kind: 1, Dir: 2}, {Kind: 2, Who: 2, Dir: 3}, {Kind: 2, Who: 4}, {Kind: 2, Who: 9, Dir: 1},
		{Kind: 3, Item: 6}, {Kind: 3, Item: 9}, {Kind: 4, Item: 2}, {Kind: 4, Item: 8}, {Kind: 5, Item: 11, Box: 7}, {Kind: 5, Item: 2, Box: 0},
		{Kind: 6, Item: 7, Box: 6}, {Kind: 6, Item: 1, Box: 0}, {Kind: 7, Item: 2, Who: 2}, {Kind: 7, Item: 11, Who: 5}, {Kind: 7, Item: 10, Who: 2},
		swap(2, []int{11}, 3, []int{5}, 1), swap(2, []int{11}, 0, []int{8}, 0), swap(0, nil, 1, nil, 0), {Kind: 9}, {Kind: 10},
	} {
		l, others := Of(w, 1, c), 0
		for range 100 {
			v := scattered(&seed, w, l)
			checkRight(t, v)
			if !isSameUnder(l, w, v) {
				t.Fatalf("%v, %v, %v isn't as %v, %v, %v is under %v", v.At, v.Coins, v.Where, w.At, w.Coins, w.Where, l)
			}
			if !desc.Same(v, w) {
				others++
			}
			checkSameElsewhere(t, w, v, 1, c)
		}
		if others < 50 {
			t.Errorf("%+v: but for %d of 100, worlds were the same", c, others)
		}
	}
}

// TestSmallWorldsThatDifferElsewhereAlone goes through all pairs of small worlds in which the same is under a command's footprint.
func TestSmallWorldsThatDifferElsewhereAlone(t *testing.T) {
	met := 0
	for _, size := range [][3]int{{2, 2, 1}, {2, 1, 2}, {3, 2, 1}} {
		worlds := smallWorlds(size[0], size[1], size[2])
		for _, c := range smallCommands() {
			for n, w := range worlds {
				l := Of(w, 0, c)
				for m := n % 3; m < len(worlds); m += 3 {
					if v := worlds[m]; m != n && isSameUnder(l, w, v) {
						checkSameElsewhere(t, w, v, 0, c)
						met++
					}
				}
			}
		}
	}
	if met < 10000 {
		t.Errorf("there were %d such pairs", met)
	}
}

func TestManyWorldsThatDifferElsewhereAlone(t *testing.T) {
	seed, met := uint32(33), tally{}
	for range 8000 {
		w := largeWorld(&seed)
		for p := range w.At {
			c := likely(&seed, w, p)
			l := Of(w, p, c)
			v := scattered(&seed, w, l)
			if !desc.Right(v) || !isSameUnder(l, w, v) {
				t.Fatalf("%+v isn't as %+v is under %v", v, w, l)
			}
			if r := checkSameElsewhere(t, w, v, p, c); !desc.Same(w, v) {
				met.add(c, r)
			}
		}
	}
	met.checkMany(t, 50)
}
