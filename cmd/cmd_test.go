package cmd

import (
	"math"
	"slices"
	"strconv"
	"strings"
	"testing"
	"unsafe"

	"innkeep/api"
)

const top = api.MaxNumber

// edges are numbers around each border that the chapter names, and around those of the integers.
var edges = []int{math.MinInt, math.MinInt + 1, -top, -2, -1, 0, 1, 2, 3, 4, 9, 10, 11, top - 1, top, top + 1, 2 * top, 1 << 32, 1<<32 + 1, math.MaxInt - 1, math.MaxInt}

// field is one of a command's numbers, by its name, and how it is set.
type field struct {
	name string
	set  func(c *api.Cmd, n int)
}

// fields are all numbers of a command but its kind.
var fields = []field{
	{"dir", func(c *api.Cmd, n int) { c.Dir = n }},
	{"item", func(c *api.Cmd, n int) { c.Item = n }},
	{"box", func(c *api.Cmd, n int) { c.Box = n }},
	{"who", func(c *api.Cmd, n int) { c.Who = n }},
	{"pay", func(c *api.Cmd, n int) { c.Pay = n }},
	{"fee", func(c *api.Cmd, n int) { c.Fee = n }},
}

// side is one of a command's lists, by its name, and how it is set.
type side struct {
	name string
	set  func(c *api.Cmd, list []int)
}

// sides are both lists of a command.
var sides = []side{
	{"gives", func(c *api.Cmd, list []int) { c.Gives = list }},
	{"wants", func(c *api.Cmd, list []int) { c.Wants = list }},
}

// has tells the fields of each kind, as the chapter has them.
var has = map[int]string{
	api.Move:  "dir",
	api.Push:  "who dir",
	api.Get:   "item",
	api.Drop:  "item",
	api.Put:   "item box",
	api.Take:  "item box",
	api.Give:  "item who",
	api.Trade: "who gives pay wants fee",
	api.Look:  "",
	api.Own:   "",
}

func hasField(kind int, name string) bool {
	return slices.Contains(strings.Fields(has[kind]), name)
}

// ordinary is a command of the kind, each field that it has set, and not to zero.
func ordinary(kind int) api.Cmd {
	c := api.Cmd{Kind: kind}
	for i, f := range fields {
		if hasField(kind, f.name) {
			f.set(&c, i%3+1)
		}
	}
	for i, s := range sides {
		if hasField(kind, s.name) {
			s.set(&c, []int{i + 5, 0, top})
		}
	}
	return c
}

// copied is c with lists of its own.
func copied(c api.Cmd) api.Cmd {
	c.Gives = slices.Clone(c.Gives)
	c.Wants = slices.Clone(c.Wants)
	return c
}

// P3.1

func checkMay(t *testing.T, c api.Cmd, want bool) {
	t.Helper()
	if got := May(c); got != want {
		t.Errorf("May(%+v) = %v", c, got)
	}
}

func TestMayOfOrdinaryCommands(t *testing.T) {
	for _, c := range []api.Cmd{
		{Kind: api.Move, Dir: api.West},
		{Kind: api.Push, Who: 5, Dir: api.South},
		{Kind: api.Get, Item: 15},
		{Kind: api.Drop, Item: 7},
		{Kind: api.Put, Item: 1, Box: 2},
		{Kind: api.Put, Item: 2, Box: 2}, // whether it can be done is of other layers
		{Kind: api.Take, Item: 3, Box: 1},
		{Kind: api.Give, Item: 4, Who: 2},
		{Kind: api.Trade, Who: 2, Gives: []int{1, 2}, Pay: 5, Wants: []int{3}, Fee: 1},
		{Kind: api.Trade, Who: 2, Gives: []int{1, 1}, Wants: []int{1}},
		{Kind: api.Look},
		{Kind: api.Own},
	} {
		checkMay(t, c, true)
	}
	for kind := 1; kind <= api.Kinds; kind++ {
		checkMay(t, ordinary(kind), true)
		checkMay(t, api.Cmd{Kind: kind}, true) // with all of its fields zero
	}
}

func TestMayOfKinds(t *testing.T) {
	for _, kind := range edges {
		checkMay(t, api.Cmd{Kind: kind}, kind >= 1 && kind <= 10)
	}
	for _, kind := range []int{0, 11, -1} {
		c := ordinary(api.Trade)
		c.Kind = kind
		checkMay(t, c, false)
	}
}

func TestMayOfNumbers(t *testing.T) {
	for kind := 1; kind <= api.Kinds; kind++ {
		for _, f := range fields {
			for _, n := range edges {
				want := n == 0
				if hasField(kind, f.name) && f.name == "dir" {
					want = n >= 0 && n <= 3
				} else if hasField(kind, f.name) {
					want = n >= 0 && n <= 1<<30
				}
				c := ordinary(kind)
				f.set(&c, n)
				checkMay(t, c, want)
			}
		}
	}
}

func TestMayOfLists(t *testing.T) {
	long := make([]int, 100)
	for kind := 1; kind <= api.Kinds; kind++ {
		for _, s := range sides {
			for _, size := range []int{0, 1, 2, 15, 16, 17, 100} {
				c := ordinary(kind)
				s.set(&c, long[:size])
				checkMay(t, c, size == 0 || hasField(kind, s.name) && size <= 16)
			}
			c := ordinary(kind)
			s.set(&c, nil)
			checkMay(t, c, true)
			s.set(&c, []int{})
			checkMay(t, c, true)
		}
	}
}

func TestMayOfNumbersInLists(t *testing.T) {
	for _, s := range sides {
		for _, n := range edges {
			for at := range 16 {
				list := slices.Repeat([]int{7}, 16)
				list[at] = n
				c := ordinary(api.Trade)
				s.set(&c, list)
				checkMay(t, c, n >= 0 && n <= 1<<30)
			}
		}
	}
}

func TestMayOfFieldsTogether(t *testing.T) {
	full := api.Cmd{Kind: api.Trade, Who: top, Gives: slices.Repeat([]int{top}, 16), Pay: top, Wants: slices.Repeat([]int{top}, 16), Fee: top}
	checkMay(t, full, true)
	for kind := 1; kind <= api.Kinds; kind++ {
		all := api.Cmd{Kind: kind, Dir: 1, Item: 1, Box: 1, Who: 1, Gives: []int{1}, Pay: 1, Wants: []int{1}, Fee: 1}
		checkMay(t, all, false)
	}
	checkMay(t, api.Cmd{Kind: api.Look, Item: 1}, false)
	checkMay(t, api.Cmd{Kind: api.Own, Gives: []int{0}}, false)
	checkMay(t, api.Cmd{Kind: api.Push, Who: -1, Dir: -1}, false)
	checkMay(t, api.Cmd{Kind: api.Trade, Pay: -1, Fee: 1}, false)
}

// others are commands each of which differs from c in one field.
func others(c api.Cmd) []api.Cmd {
	other := copied(c)
	other.Kind = c.Kind + 1
	all := []api.Cmd{other}
	for _, f := range fields {
		for _, n := range []int{-7, 7, top + 7} {
			other := copied(c)
			f.set(&other, n)
			all = append(all, other)
		}
	}
	for _, s := range sides {
		for _, list := range [][]int{{0}, {-7}, {8, 9}, {9, 8}, {8, 9, 0}} {
			other := copied(c)
			s.set(&other, list)
			all = append(all, other)
		}
	}
	return all
}

func checkSame(t *testing.T, a, b api.Cmd, want bool) {
	t.Helper()
	if Same(a, b) != want || Same(b, a) != want {
		t.Errorf("Same(%+v, %+v) = %v, %v", a, b, Same(a, b), Same(b, a))
	}
}

func TestSame(t *testing.T) {
	for kind := -1; kind <= api.Kinds+1; kind++ {
		c := ordinary(kind)
		checkSame(t, c, c, true)
		checkSame(t, c, copied(c), true)
		all := others(c)
		for i, a := range all {
			checkSame(t, c, a, false)
			for j, b := range all {
				checkSame(t, a, copied(b), i == j)
			}
		}
	}
}

func TestSameOfAnyNumbers(t *testing.T) {
	for _, a := range edges {
		for _, b := range edges {
			checkSame(t, api.Cmd{Kind: a}, api.Cmd{Kind: b}, a == b)
			checkSame(t, api.Cmd{Gives: []int{a}}, api.Cmd{Gives: []int{b}}, a == b)
			checkSame(t, api.Cmd{Wants: []int{5, a}}, api.Cmd{Wants: []int{5, b}}, a == b)
			for _, f := range fields {
				var c, d api.Cmd
				f.set(&c, a)
				f.set(&d, b)
				checkSame(t, c, d, a == b)
			}
		}
	}
}

func TestSameOfFieldsChanged(t *testing.T) {
	for i, f := range fields {
		for j, g := range fields {
			var a, b api.Cmd
			f.set(&a, 1)
			g.set(&b, 1)
			checkSame(t, a, b, i == j)
		}
	}
	checkSame(t, api.Cmd{Kind: 8, Gives: []int{1}}, api.Cmd{Kind: 8, Wants: []int{1}}, false)
	checkSame(t, api.Cmd{Gives: []int{1, 2}, Wants: []int{3}}, api.Cmd{Gives: []int{1}, Wants: []int{2, 3}}, false)
	checkSame(t, api.Cmd{Gives: []int{1, 2}}, api.Cmd{Gives: []int{2, 1}}, false)
	checkSame(t, api.Cmd{Gives: []int{1, 1}}, api.Cmd{Gives: []int{1}}, false)
}

func TestSameOfListsOfNothing(t *testing.T) {
	some := make([]int, 0, 4)
	for _, a := range [][]int{nil, {}, some} {
		for _, b := range [][]int{nil, {}, some} {
			checkSame(t, api.Cmd{Kind: 8, Gives: a, Wants: b}, api.Cmd{Kind: 8, Gives: b, Wants: a}, true)
		}
		checkSame(t, api.Cmd{Gives: a}, api.Cmd{Gives: []int{0}}, false)
		checkSame(t, api.Cmd{Wants: a}, api.Cmd{Wants: []int{0}}, false)
	}
}

func TestSameOfLongLists(t *testing.T) {
	a, b := make([]int, 100000), make([]int, 100000)
	checkSame(t, api.Cmd{Gives: a, Wants: b}, api.Cmd{Gives: b, Wants: a}, true)
	checkSame(t, api.Cmd{Gives: a}, api.Cmd{Gives: b[:99999]}, false)
	b[99999] = 1
	checkSame(t, api.Cmd{Gives: a}, api.Cmd{Gives: b}, false)
	checkSame(t, api.Cmd{Wants: a}, api.Cmd{Wants: b}, false)
}

func TestListsStay(t *testing.T) {
	room := []int{5, 1, 3, 9, 9}
	want := slices.Clone(room)
	other := []int{5, 1, 3, 8}
	c := api.Cmd{Kind: api.Trade, Who: 1, Gives: room[:3], Wants: room[1:2]}
	checkMay(t, c, true)
	checkSame(t, c, api.Cmd{Kind: api.Trade, Who: 1, Gives: other[:3], Wants: other[1:2]}, true)
	checkSame(t, c, api.Cmd{Kind: api.Trade, Who: 1, Gives: other, Wants: other[1:2]}, false)
	if !slices.Equal(room, want) || !slices.Equal(other, []int{5, 1, 3, 8}) {
		t.Errorf("the lists became %v and %v", room, other)
	}
}

// P3.2

// wantKinds and wantWays are the chapter's names, by numbers written out: were constants taken for them, two that changed places would go unseen.
var (
	wantKinds = map[int]string{1: "move", 2: "push", 3: "get", 4: "drop", 5: "put", 6: "take", 7: "give", 8: "trade", 9: "look", 10: "own"}
	wantWays  = map[int]string{0: "north", 1: "east", 2: "south", 3: "west"}
)

func TestNames(t *testing.T) {
	numbers := slices.Clone(edges)
	for n := -300; n <= 300; n++ {
		numbers = append(numbers, n)
	}
	for _, n := range numbers {
		if got := Name(n); got != wantKinds[n] {
			t.Errorf("Name(%d) = %q", n, got)
		}
		if got := Way(n); got != wantWays[n] {
			t.Errorf("Way(%d) = %q", n, got)
		}
	}
}

func TestNumbersOfNames(t *testing.T) {
	for n, name := range wantKinds {
		checkNumbers(t, name, n, true, 0, false)
	}
	for n, name := range wantWays {
		checkNumbers(t, name, 0, false, n, true)
	}
}

func checkNumbers(t *testing.T, name string, kind int, isKind bool, dir int, isDir bool) {
	t.Helper()
	if n, ok := Kind(name); n != kind || ok != isKind {
		t.Errorf("Kind(%.40q) = %d, %v", name, n, ok)
	}
	if n, ok := Dir(name); n != dir || ok != isDir {
		t.Errorf("Dir(%.40q) = %d, %v", name, n, ok)
	}
}

func TestNumbersOfWrongNames(t *testing.T) {
	wrong := []string{
		"", " ", "\x00", "\xff", "0", "1", "10", "-1",
		"go", "walk", "up", "down", "in", "from", "to", "for", "coins", "none", "error", "idle",
		"n", "e", "s", "w", "northeast", "north east", "get drop", "movepush", "mo", "ove",
		"\u0261et", "\uff4dove", "ea\u017ft", "pu\u017fh", // letters that look like others, or fold to them
		strings.Repeat("move", 1000), strings.Repeat("x", 100000),
	}
	for _, name := range allNames() {
		wrong = append(wrong,
			strings.ToUpper(name), strings.ToUpper(name[:1])+name[1:],
			" "+name, name+" ", name+"\n", name+"\x00", "\t"+name, name+"s", name+name,
			name[1:], name[:len(name)-1], strings.Repeat("x", len(name)))
	}
	for _, name := range wrong {
		checkNumbers(t, name, 0, false, 0, false)
	}
}

// allNames are the names of all kinds, and then of all ways.
func allNames() []string {
	var names []string
	for kind := 1; kind <= api.Kinds; kind++ {
		names = append(names, wantKinds[kind])
	}
	for dir := range api.Dirs {
		names = append(names, wantWays[dir])
	}
	return names
}

func TestNamesChangedByOneByte(t *testing.T) {
	names := allNames()
	for _, name := range names {
		for i := range len(name) {
			for b := range 256 {
				changed := name[:i] + string([]byte{byte(b)}) + name[i+1:]
				if !slices.Contains(names, changed) {
					checkNumbers(t, changed, 0, false, 0, false)
				}
			}
		}
	}
}

func TestNamesAreNewMemory(t *testing.T) {
	for kind := 1; kind <= api.Kinds; kind++ {
		if unsafe.StringData(Name(kind)) == unsafe.StringData(Name(kind)) {
			t.Errorf("two names of the kind %d share memory", kind)
		}
	}
	for dir := range api.Dirs {
		if unsafe.StringData(Way(dir)) == unsafe.StringData(Way(dir)) {
			t.Errorf("two names of the way %d share memory", dir)
		}
	}
}

// P3.3

func TestNamesAreUnlike(t *testing.T) {
	owners := map[string]string{"": "what is none"}
	claim := func(name, owner string) {
		if other, ok := owners[name]; ok {
			t.Errorf("%s and %s are both named %q", owner, other, name)
		}
		owners[name] = owner
	}
	for kind := 1; kind <= api.Kinds; kind++ {
		claim(Name(kind), "the kind "+strconv.Itoa(kind))
	}
	for dir := range api.Dirs {
		claim(Way(dir), "the way "+strconv.Itoa(dir))
	}
}

func TestNamesLeadBack(t *testing.T) {
	for kind := 1; kind <= api.Kinds; kind++ {
		if n, ok := Kind(Name(kind)); n != kind || !ok {
			t.Errorf("the kind %d's name leads to %d, %v", kind, n, ok)
		}
	}
	for dir := range api.Dirs {
		if n, ok := Dir(Way(dir)); n != dir || !ok {
			t.Errorf("the way %d's name leads to %d, %v", dir, n, ok)
		}
	}
}
