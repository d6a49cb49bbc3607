package plan

import (
	"testing"

	"innkeep/api"
	"innkeep/atom"
	"innkeep/desc"
)

// P18.2

// checkMakes does the changes from a world to another one.
func checkMakes(t *testing.T, w, next api.World) []api.Write {
	t.Helper()
	l := From(w, next)
	checkMade(t, w, l, next)
	return l
}

// checkMade does changes all at once, one by one, and as what is left to sessions.
func checkMade(t *testing.T, w api.World, l []api.Write, want api.World) {
	t.Helper()
	if got := All(w, l); !desc.Same(got, want) {
		t.Errorf("All of %+v and %+v is %+v, not %+v", w, l, got, want)
	}
	got := w
	for step := range len(l) + 1 {
		if settled := Settled(got, []api.Sess{{Phase: 5, Step: step, Plan: l}}); !desc.Same(settled, want) {
			t.Errorf("behind %d changes of %+v Settled is %+v, not %+v", step, l, settled, want)
		}
		if step < len(l) {
			got = Do(got, l[step])
		}
	}
	if !desc.Same(got, want) {
		t.Errorf("Do of %+v and %+v, one by one, is %+v, not %+v", w, l, got, want)
	}
}

func TestTheChangesMakeTheOtherWorld(t *testing.T) {
	w := inn()
	checkMakes(t, w, w)
	next := inn()
	next.At, next.Coins = []int{0, 0, 2, 1}, []int{0, maxCoins, 1, 2}
	next.Where = []api.Place{inPlayer(0), inRoom(0), inBox(0), inBox(2), inRoom(2)}
	checkRight(t, next)
	if l := checkMakes(t, w, next); len(l) != 13 {
		t.Errorf("there are %d changes", len(l))
	}
	checkMakes(t, next, w)
}

func TestTheChangesMakeAllSmallWorlds(t *testing.T) {
	allPairs(func(w, next api.World) { checkMakes(t, w, next) })
}

func TestTheChangesMakeAWorldInAnyOrder(t *testing.T) {
	for _, size := range [][3]int{{2, 1, 1}, {2, 2, 0}, {1, 1, 2}} {
		worlds := smallWorlds(size[0], size[1], size[2])
		for _, w := range worlds {
			for _, next := range worlds {
				orders(From(w, next), func(l []api.Write) {
					if got := All(w, l); !desc.Same(got, next) {
						t.Errorf("All of %+v and %+v is %+v, not %+v", w, l, got, next)
					}
				})
			}
		}
	}
	seed := uint32(30)
	for range 500 {
		w := changed(&seed, largeWorld(t, &seed))
		next := changed(&seed, w)
		for range 5 {
			checkMade(t, w, shuffled(&seed, From(w, next)), next)
		}
	}
}

func TestTheChangesMakeManyWorlds(t *testing.T) {
	seed := uint32(4)
	for range 2000 {
		w := changed(&seed, largeWorld(t, &seed))
		checkMakes(t, w, changed(&seed, w))
	}
}

// likely is a command of the player p, of any kind, that changes something more often than not.
func likely(seed *uint32, w api.World, p int) api.Cmd {
	c := api.Cmd{Kind: 1 + pick(seed, 10)}
	switch c.Kind {
	case api.Move:
		c.Dir = pick(seed, 4)
	case api.Push:
		c.Dir, c.Who = pick(seed, 4), likelyWho(seed, w, p)
	case api.Get:
		c.Item = likelyItem(seed, w, inRoom(w.At[p]))
	case api.Drop:
		c.Item = likelyItem(seed, w, inPlayer(p))
	case api.Put:
		c.Item, c.Box = likelyItem(seed, w, inPlayer(p)), likelyItem(seed, w, inRoom(w.At[p]))
	case api.Take:
		c.Box = likelyItem(seed, w, inRoom(w.At[p]))
		c.Item = likelyItem(seed, w, inBox(c.Box))
	case api.Give:
		c.Item, c.Who = likelyItem(seed, w, inPlayer(p)), likelyWho(seed, w, p)
	case api.Trade:
		c.Who, c.Pay, c.Fee = likelyWho(seed, w, p), pick(seed, 100), pick(seed, 100)
	}
	return c
}

// likelyWho is another one who is where p is, if there is one.
func likelyWho(seed *uint32, w api.World, p int) int {
	who := pick(seed, len(w.At))
	for range w.At {
		if who != p && w.At[who] == w.At[p] {
			return who
		}
		who = (who + 1) % len(w.At)
	}
	return who
}

// likelyItem is one that is at that place, if there is one.
func likelyItem(seed *uint32, w api.World, place api.Place) int {
	item := pick(seed, 16)
	for range 16 {
		if item < len(w.Where) && w.Where[item] == place {
			return item
		}
		item = (item + 1) % 16
	}
	return item
}

// TestTheChangesMakeWhatCommandsMake goes on from world to world, and in the end from the first to the last one.
func TestTheChangesMakeWhatCommandsMake(t *testing.T) {
	seed, met := uint32(12), [11]int{}
	for range 300 {
		first := largeWorld(t, &seed)
		w := first
		for range 40 {
			p := pick(&seed, len(w.At))
			c := likely(&seed, w, p)
			next, _ := atom.Do(w, p, c)
			if len(checkMakes(t, w, next)) > 0 {
				met[c.Kind]++
			}
			w = next
		}
		checkMakes(t, first, w)
	}
	for kind, n := range met {
		if mayChange := kind >= api.Move && kind <= api.Trade; mayChange && n < 10 || !mayChange && n > 0 {
			t.Errorf("the kind %d changed something %d times", kind, n)
		}
	}
}
