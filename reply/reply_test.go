package reply

import (
	"fmt"
	"math"
	"regexp"
	"slices"
	"strconv"
	"strings"
	"testing"
	"unsafe"

	"innkeep/api"
)

const top = api.MaxNumber

// at is an item that is seen.
func at(item, kind, id int) api.Seen {
	return api.Seen{Item: item, At: api.Place{Kind: kind, Id: id}}
}

// known are answers and their texts, each error and each kind written out, with the numbers of errors, kinds and places.
var known = []struct {
	r    api.Reply
	text string
}{
	{api.Reply{Err: 1}, "error 1"},
	{api.Reply{Err: 2}, "error 2"},
	{api.Reply{Err: 3}, "error 3"},
	{api.Reply{Err: 4}, "error 4"},
	{api.Reply{Err: 5}, "error 5"},
	{api.Reply{Err: 6}, "error 6"},
	{api.Reply{Err: 7}, "error 7"},
	{api.Reply{Err: 8}, "error 8"},
	{api.Reply{Err: 9}, "error 9"},
	{api.Reply{Err: 10}, "error 10"},
	{api.Reply{Err: 11}, "error 11"},
	{api.Reply{Err: 12}, "error 12"},
	{api.Reply{Err: 13}, "error 13"},
	{api.Reply{Kind: 1}, "move 0"},
	{api.Reply{Kind: 1, Room: 7}, "move 7"},
	{api.Reply{Kind: 1, Room: top}, "move 1073741824"},
	{api.Reply{Kind: 2}, "push 0"},
	{api.Reply{Kind: 2, Room: 1}, "push 1"},
	{api.Reply{Kind: 2, Room: top - 1}, "push 1073741823"},
	{api.Reply{Kind: 3}, "get"},
	{api.Reply{Kind: 4}, "drop"},
	{api.Reply{Kind: 5}, "put"},
	{api.Reply{Kind: 6}, "take"},
	{api.Reply{Kind: 7}, "give"},
	{api.Reply{Kind: 8}, "trade"},
	{api.Reply{Kind: 9}, "look 0 players items"},
	{api.Reply{Kind: 9, Room: 2}, "look 2 players items"},
	{api.Reply{Kind: 9, Room: 1, Players: []int{1}}, "look 1 players 1 items"},
	{api.Reply{Kind: 9, Room: 1, Items: []api.Seen{at(4, 0, 1)}}, "look 1 players items 4 in 1"},
	{api.Reply{Kind: 9, Room: 1, Players: []int{0, 2}, Items: []api.Seen{at(5, 0, 1), at(6, 2, 5)}}, "look 1 players 0 2 items 5 in 1 6 box 5"},
	{api.Reply{Kind: 9, Players: []int{3, 1, 1, 0}, Items: []api.Seen{at(9, 1, 8), at(9, 1, 8), at(0, 2, 0)}}, "look 0 players 3 1 1 0 items 9 with 8 9 with 8 0 box 0"},
	{api.Reply{Kind: 9, Room: top, Players: numbersTo(16), Items: slices.Repeat([]api.Seen{at(top, 2, top)}, 16)}, "look 1073741824 players 0 1 2 3 4 5 6 7 8 9 10 11 12 13 14 15 items" + strings.Repeat(" 1073741824 box 1073741824", 16)},
	{api.Reply{Kind: 10}, "own 0 items"},
	{api.Reply{Kind: 10, Coins: 5}, "own 5 items"},
	{api.Reply{Kind: 10, Coins: 5, Items: []api.Seen{at(0, 1, 0), at(1, 2, 0)}}, "own 5 items 0 with 0 1 box 0"},
	{api.Reply{Kind: 10, Coins: top, Items: []api.Seen{at(1, 0, 2)}}, "own 1073741824 items 1 in 2"},
}

// numbersTo are the numbers from 0 on.
func numbersTo(n int) []int {
	list := make([]int, n)
	for i := range list {
		list[i] = i
	}
	return list
}

// itemsTo are items from 0 on, in places of all kinds.
func itemsTo(n int) []api.Seen {
	list := make([]api.Seen, n)
	for i := range list {
		list[i] = at(i, i%3, i*i)
	}
	return list
}

// all are answers that may be of every error and kind, with their numbers and lists at the edges.
func all() []api.Reply {
	var list []api.Reply
	for err := range api.Errno(13) {
		list = append(list, api.Reply{Err: err + 1})
	}
	for kind := api.Get; kind <= api.Trade; kind++ {
		list = append(list, api.Reply{Kind: kind})
	}
	for _, n := range []int{0, 1, 9, 10, top - 1, top} {
		list = append(list, api.Reply{Kind: api.Move, Room: n}, api.Reply{Kind: api.Push, Room: n})
		for _, items := range itemLists() {
			list = append(list, api.Reply{Kind: api.Own, Coins: n, Items: items})
			for _, players := range playerLists() {
				list = append(list, api.Reply{Kind: api.Look, Room: n, Players: players, Items: items})
			}
		}
	}
	return list
}

func playerLists() [][]int {
	return [][]int{nil, {}, {0}, {top}, {5, 1}, {1, 5}, {51}, {3, 3, 3}, numbersTo(15), numbersTo(16), slices.Repeat([]int{top}, 16)}
}

func itemLists() [][]api.Seen {
	return [][]api.Seen{
		nil, {}, {at(0, 0, 0)}, {at(0, 1, 0)}, {at(0, 2, 0)}, {at(top, 0, top)}, {at(1, 2, 3)}, {at(3, 2, 1)},
		{at(1, 0, 2), at(3, 1, 4)}, {at(3, 1, 4), at(1, 0, 2)}, {at(7, 2, 7), at(7, 2, 7)},
		itemsTo(15), itemsTo(16), slices.Repeat([]api.Seen{at(top, 1, top)}, 16),
	}
}

// told is the text of an answer that may be, as the chapter has it.
func told(r api.Reply) string {
	if r.Err != 0 {
		return fmt.Sprintf("error %d", r.Err)
	}
	switch r.Kind {
	case 1:
		return fmt.Sprintf("move %d", r.Room)
	case 2:
		return fmt.Sprintf("push %d", r.Room)
	case 9:
		text := fmt.Sprintf("look %d players", r.Room)
		for _, player := range r.Players {
			text += fmt.Sprintf(" %d", player)
		}
		return text + toldItems(r.Items)
	case 10:
		return fmt.Sprintf("own %d", r.Coins) + toldItems(r.Items)
	}
	return []string{"get", "drop", "put", "take", "give", "trade"}[r.Kind-3]
}

func toldItems(items []api.Seen) string {
	text := " items"
	for _, seen := range items {
		text += fmt.Sprintf(" %d %s %d", seen.Item, []string{"in", "with", "box"}[seen.At.Kind], seen.At.Id)
	}
	return text
}

// shape is what texts may be, but for the limits of numbers and of lists.
var shape = regexp.MustCompile(strings.NewReplacer("N", "(?:0|[1-9][0-9]*)", "I", "((?: (?:0|[1-9][0-9]*) (?:in|with|box) (?:0|[1-9][0-9]*))*)").Replace(
	`\A(?:error (?:[1-9]|1[0-3])|move N|push N|get|drop|put|take|give|trade|look N players((?: N)*) itemsI|own N itemsI)\z`))

// isAnAnswers tells whether it is the text of an answer that may be.
func isAnAnswers(text string) bool {
	found := shape.FindStringSubmatch(text)
	if found == nil || strings.Count(found[1], " ") > 16 || strings.Count(found[2], " ") > 3*16 || strings.Count(found[3], " ") > 3*16 {
		return false
	}
	for word := range strings.SplitSeq(text, " ") {
		if word[0] <= '9' {
			if n, err := strconv.ParseUint(word, 10, 64); err != nil || n > top {
				return false
			}
		}
	}
	return true
}

// P5.1

// checkMay holds an answer that may be against May and Put.
func checkMay(t *testing.T, r api.Reply, want string) {
	t.Helper()
	if !May(r) {
		t.Errorf("May(%+v) = false", r)
	}
	if got, err := Put(r); got != want || err != api.OK {
		t.Errorf("Put(%+v) = %q, %d", r, got, err)
	}
}

// checkMayNot holds another answer against May and Put.
func checkMayNot(t *testing.T, r api.Reply) {
	t.Helper()
	if May(r) {
		t.Errorf("May(%+v) = true", r)
	}
	if got, err := Put(r); got != "" || err != api.ErrForm {
		t.Errorf("Put(%+v) = %q, %d", r, got, err)
	}
}

func TestKnownAnswers(t *testing.T) {
	for _, x := range known {
		checkMay(t, x.r, x.text)
	}
}

func TestAnswersOfAllKinds(t *testing.T) {
	for _, r := range all() {
		checkMay(t, r, told(r))
	}
}

func TestAnswersOfAllErrors(t *testing.T) {
	for err := api.Errno(-20); err <= 300; err++ {
		r := api.Reply{Err: err}
		if err >= 1 && err <= 13 {
			checkMay(t, r, fmt.Sprintf("error %d", err))
		} else {
			checkMayNot(t, r)
		}
	}
	for _, err := range []api.Errno{math.MinInt, -top, top, 1 << 32, 1<<32 + 1, math.MaxInt} {
		checkMayNot(t, api.Reply{Err: err})
	}
}

func TestAnswersOfOtherKinds(t *testing.T) {
	for _, kind := range []int{math.MinInt, -9, -1, 0, 11, 12, 1<<32 + 3, math.MaxInt} {
		checkMayNot(t, api.Reply{Kind: kind})
		checkMayNot(t, api.Reply{Kind: kind, Room: 1, Coins: 1, Players: []int{1}, Items: itemsTo(1)})
		if kind != 0 {
			checkMayNot(t, api.Reply{Kind: kind, Err: 3})
		}
	}
}

// fields set each of an answer's fields to what isn't zero.
var fields = map[string]func(r *api.Reply){
	"Err":     func(r *api.Reply) { r.Err = 3 },
	"Kind":    func(r *api.Reply) { r.Kind = 3 },
	"Room":    func(r *api.Reply) { r.Room = 1 },
	"Players": func(r *api.Reply) { r.Players = []int{0} },
	"Items":   func(r *api.Reply) { r.Items = []api.Seen{{}} },
	"Coins":   func(r *api.Reply) { r.Coins = 1 },
}

func TestAnswersHaveNoMoreThanTheirFields(t *testing.T) {
	has := map[int]string{api.Move: "Room", api.Push: "Room", api.Look: "Room Players Items", api.Own: "Items Coins"}
	for kind := 1; kind <= api.Kinds; kind++ {
		for name, set := range fields {
			if name == "Kind" {
				continue
			}
			r := api.Reply{Kind: kind}
			set(&r)
			if strings.Contains(has[kind], name) {
				checkMay(t, r, told(r))
			} else {
				checkMayNot(t, r)
			}
		}
	}
	for err := api.Errno(1); err <= 13; err++ {
		for name, set := range fields {
			if name == "Err" {
				continue
			}
			r := api.Reply{Err: err}
			set(&r)
			checkMayNot(t, r)
		}
	}
	for _, set := range fields {
		var r api.Reply
		set(&r)
		if r.Err == 0 && r.Kind == 0 {
			checkMayNot(t, r)
		}
	}
}

func TestEmptyListsAreNone(t *testing.T) {
	none, nobody := []api.Seen{}, []int{}
	for _, x := range known {
		r := x.r
		if len(r.Players) == 0 {
			r.Players = nobody
		}
		if len(r.Items) == 0 {
			r.Items = none
		}
		checkMay(t, r, x.text)
		if !Same(r, x.r) || !Same(x.r, r) {
			t.Errorf("%+v and %+v aren't the same", r, x.r)
		}
	}
	checkMayNot(t, api.Reply{Players: nobody, Items: none})
}

func TestNumbersAtTheEdges(t *testing.T) {
	for _, n := range []int{math.MinInt, -top, -1, 0, 1, 13, 14, top - 1, top, top + 1, 2 * top, 1 << 32, math.MaxInt} {
		for _, r := range []api.Reply{
			{Kind: api.Move, Room: n},
			{Kind: api.Push, Room: n},
			{Kind: api.Look, Room: n},
			{Kind: api.Look, Players: []int{n}},
			{Kind: api.Look, Players: append(numbersTo(15), n)},
			{Kind: api.Look, Players: []int{n, 0}},
			{Kind: api.Look, Items: []api.Seen{at(n, 0, 0)}},
			{Kind: api.Look, Items: []api.Seen{at(0, 1, n)}},
			{Kind: api.Look, Items: append(itemsTo(15), at(n, 2, n))},
			{Kind: api.Own, Coins: n},
			{Kind: api.Own, Items: []api.Seen{at(n, 1, 0), at(0, 1, 0)}},
			{Kind: api.Own, Items: []api.Seen{at(0, 2, 0), at(0, 2, n)}},
		} {
			if n >= 0 && n <= top {
				checkMay(t, r, told(r))
			} else {
				checkMayNot(t, r)
			}
		}
	}
}

func TestKindsOfPlaces(t *testing.T) {
	for _, kind := range []int{math.MinInt, -1, 0, 1, 2, 3, 4, 1 << 32, math.MaxInt} {
		for _, items := range [][]api.Seen{{at(5, kind, 1)}, {at(5, 0, 1), at(6, kind, 5)}, append(itemsTo(15), at(0, kind, 0))} {
			for _, r := range []api.Reply{{Kind: api.Look, Room: 1, Items: items}, {Kind: api.Own, Coins: 1, Items: items}} {
				if kind >= 0 && kind <= 2 {
					checkMay(t, r, told(r))
				} else {
					checkMayNot(t, r)
				}
			}
		}
	}
}

func TestLengthsOfLists(t *testing.T) {
	for _, size := range []int{0, 1, 2, 15, 16, 17, 18, 32, 1000} {
		for _, r := range []api.Reply{
			{Kind: api.Look, Players: make([]int, size)},
			{Kind: api.Look, Players: numbersTo(size), Items: itemsTo(min(size, 16))},
			{Kind: api.Look, Items: make([]api.Seen, size)},
			{Kind: api.Look, Players: numbersTo(16), Items: itemsTo(size)},
			{Kind: api.Own, Items: itemsTo(size)},
		} {
			if size <= 16 {
				checkMay(t, r, told(r))
			} else {
				checkMayNot(t, r)
			}
		}
	}
}

// checkSame holds two answers against one another, either way round.
func checkSame(t *testing.T, a, b api.Reply, want bool) {
	t.Helper()
	if Same(a, b) != want || Same(b, a) != want {
		t.Errorf("Same(%+v, %+v) isn't %v", a, b, want)
	}
}

// full is an answer with all its fields; it may not be.
func full() api.Reply {
	return api.Reply{Err: 5, Kind: 9, Room: 3, Players: []int{1, 2, 4}, Items: []api.Seen{at(5, 0, 1), at(6, 2, 5)}, Coins: 7}
}

func TestSame(t *testing.T) {
	list := all()
	texts := make([]string, len(list))
	for i, r := range list {
		texts[i] = told(r)
	}
	for i, a := range list {
		for j, b := range list {
			checkSame(t, a, b, texts[i] == texts[j])
		}
	}
	checkSame(t, api.Reply{}, api.Reply{}, true)
	checkSame(t, api.Reply{}, api.Reply{Players: []int{}, Items: []api.Seen{}}, true)
	checkSame(t, full(), full(), true)
	checkSame(t, full(), api.Reply{}, false)
}

func TestSameOfAnswersUnlikeInOneField(t *testing.T) {
	changes := map[string]func(r *api.Reply){
		"Err": func(r *api.Reply) { r.Err++ }, "no Err": func(r *api.Reply) { r.Err = 0 }, "other Err": func(r *api.Reply) { r.Err = -r.Err },
		"Kind": func(r *api.Reply) { r.Kind++ }, "no Kind": func(r *api.Reply) { r.Kind = 0 }, "far Kind": func(r *api.Reply) { r.Kind += 1 << 32 },
		"Room": func(r *api.Reply) { r.Room-- }, "no Room": func(r *api.Reply) { r.Room = 0 }, "far Room": func(r *api.Reply) { r.Room = math.MinInt },
		"Coins": func(r *api.Reply) { r.Coins++ }, "no Coins": func(r *api.Reply) { r.Coins = 0 }, "far Coins": func(r *api.Reply) { r.Coins = math.MaxInt },
		"first player": func(r *api.Reply) { r.Players[0]++ }, "last player": func(r *api.Reply) { r.Players[2]++ },
		"order of players": func(r *api.Reply) { r.Players = []int{2, 1, 4} }, "player less": func(r *api.Reply) { r.Players = r.Players[:2] },
		"player ahead less": func(r *api.Reply) { r.Players = r.Players[1:] },
		"player more":       func(r *api.Reply) { r.Players = append(r.Players, 0) }, "no players": func(r *api.Reply) { r.Players = nil },
		"item": func(r *api.Reply) { r.Items[0].Item++ }, "item's kind": func(r *api.Reply) { r.Items[1].At.Kind-- }, "item's place": func(r *api.Reply) { r.Items[1].At.Id++ },
		"order of items": func(r *api.Reply) { r.Items[0], r.Items[1] = r.Items[1], r.Items[0] }, "item less": func(r *api.Reply) { r.Items = r.Items[:1] },
		"item more": func(r *api.Reply) { r.Items = append(r.Items, api.Seen{}) }, "no items": func(r *api.Reply) { r.Items = nil },
	}
	for name, change := range changes {
		a, b := full(), full()
		change(&b)
		if Same(a, b) || Same(b, a) {
			t.Errorf("%s: %+v and %+v are the same", name, a, b)
		}
		change(&a)
		if !Same(a, b) {
			t.Errorf("%s: %+v and %+v aren't the same", name, a, b)
		}
	}
	for name, set := range fields {
		var r api.Reply
		set(&r)
		if Same(r, api.Reply{}) || Same(api.Reply{}, r) {
			t.Errorf("%s: %+v and a zero one are the same", name, r)
		}
	}
}

// P5.2

// checkForm holds a text that is none's against Get.
func checkForm(t *testing.T, text string) {
	t.Helper()
	if r, err := Get(text); !Same(r, api.Reply{}) || err != api.ErrForm {
		t.Errorf("Get(%.200q) = %+v, %d", text, r, err)
	}
}

// checkGet holds a text of any kind against Get.
func checkGet(t *testing.T, text string) {
	t.Helper()
	if !isAnAnswers(text) {
		checkForm(t, text)
		return
	}
	r, err := Get(text)
	if err != api.OK || !May(r) || told(r) != text {
		t.Errorf("Get(%.200q) = %+v, %d", text, r, err)
	}
}

func TestGetOfKnownTexts(t *testing.T) {
	for _, x := range known {
		if r, err := Get(x.text); !Same(r, x.r) || err != api.OK {
			t.Errorf("Get(%q) = %+v, %d", x.text, r, err)
		}
		if !isAnAnswers(x.text) {
			t.Errorf("the tests themselves take %q for none's", x.text)
		}
	}
}

func TestGetOfErrors(t *testing.T) {
	for n := -5; n <= 2000; n++ {
		text := "error " + strconv.Itoa(n)
		r, err := Get(text)
		if n >= 1 && n <= 13 {
			if !Same(r, api.Reply{Err: api.Errno(n)}) || err != api.OK {
				t.Errorf("Get(%q) = %+v, %d", text, r, err)
			}
		} else {
			checkForm(t, text)
		}
	}
}

func TestGetOfWrongTexts(t *testing.T) {
	for _, text := range []string{
		"", " ", "    ", "\x00", "\xff", "nothing", "0", "5",
		// A word less.
		"error", "move", "push", "look", "look 1", "look 1 players", "look 1 items", "look players items", "look players 1 items", "own", "own 5", "own items",
		"look 1 players 1", "look 1 players 1 items 5", "look 1 players items 5 in", "look 1 players items in 1", "look 1 players items 5 1", "own 5 items 1 with 0 2", "own 5 items 1 with 0 2 box",
		// A word more.
		"error 1 2", "error 1 1", "error 13 get", "move 1 2", "move move 1", "push 0 push", "get 1", "get get", "get 0", "drop 0", "put 5 in 3", "take 1", "give 1 to 2", "trade 1",
		"look look 1 players items", "look 1 2 players items", "look 1 players items items", "look 1 players items 5", "own 5 6 items", "own 5 items 6", "own 5 items own", "own 5 items 1 with 0 error",
		// Names of other kinds, of none, and written otherwise.
		"get players items", "own 5 players items", "own 5 players 1 items", "look 1", "move 1 players items", "error players items", "look 5 items 1 in 1",
		"Error 1", "ERROR 1", "err 1", "errors 1", "erro 1", "ok", "done", "Get", "GET", "ge", "gets", "go 1", "mover 1", "north", "move north",
		"Look 1 players items", "look 1 Players items", "look 1 players Items", "look 1 player items", "look 1 players item", "own 5 item", "own 5 Items",
		// The words players, items, in, with and box left out, doubled, others in their stead, and put elsewhere.
		"look 1 1 items", "look 1 players players 1 items", "look 1 players 1 players items", "look 1 players 1 items items 5 in 1", "look players 1 1 items", "players look 1 items",
		"look 1 items players", "look 1 items 1 players", "look 1 items 5 in 1 players 1", "look 1 players 1 5 in 1", "look 1 players 1 5 items in 1", "look 1 players 1 coins",
		"look 1 items items", "look 1 players players", "look 1 with items", "look 1 players 1 with", "look 1 players 1 own 5 items", "items own 5", "own items 5", "own 5 with", "own 5 players",
		"own 5 items 1 at 0", "own 5 items 1 from 0", "own 5 items 1 In 0", "own 5 items 1 room 0", "own 5 items 1 2 0", "own 5 items in 1 0", "own 5 items 1 0 in", "own 5 items 1 in in 0",
		"own 5 items 1 with with 0", "own 5 items 1 box box 0", "own 5 items 1 in box 0", "own 5 items 1 in 0 in 2", "own 5 items 1 in 0 2 3 in", "own 5 items 1 items 0", "own 5 items box 1 box",
		// What is no number's word.
		"error 01", "error 0", "error 14", "error +1", "error -1", "error x", "error one", "error 1.", "error 0x1", "error 1_0", "error 1e0", "error 4294967297", "error 18446744073709551617", "error get",
		"move 00", "move 01", "move +1", "move -0", "move -1", "move x", "move 1073741825", "push 4294967296", "push 05", "look 01 players items", "look -1 players items", "look x players items",
		"look 1 players 01 items", "look 1 players -1 items", "look 1 players +1 items", "look 1 players x items", "look 1 players 1 x 2 items", "look 1 players 1,2 items", "look 1 players 1073741825 items",
		"look 1 players items 05 in 1", "look 1 players items 5 in 01", "look 1 players items -5 in 1", "look 1 players items 5 in -1", "look 1 players items x in 1", "look 1 players items 5 in x",
		"own 05 items", "own -5 items", "own +5 items", "own x items", "own 1073741825 items", "own 9223372036854775808 items", "own 5 items 1 with 1073741825", "own 5 items 1073741825 with 1", "own 0 items 1 with 00",
		// What is no gap.
		"get\n", "\tget", "move\t1", "move 1\r\n", "move 1\x00", "error\u00a01", "\ufeffget", "move \uff11", "move1", "error1", "own 5 items;", "look 1 players,items", "own 5 items 1 in\t0",
	} {
		checkForm(t, text)
	}
}

func TestGetOfGapsMore(t *testing.T) {
	for _, r := range all()[:60] {
		checkGaps(t, told(r))
	}
	for _, x := range known {
		checkGaps(t, x.text)
	}
}

// checkGaps puts gaps more ahead of, behind and within an answer's text, and takes each of its gaps out.
func checkGaps(t *testing.T, text string) {
	t.Helper()
	for _, gap := range []string{" ", "  ", strings.Repeat(" ", 300), "\t", "\n", "\x00", "\u00a0"} {
		checkForm(t, gap+text)
		checkForm(t, text+gap)
		for i := range len(text) {
			if text[i] == ' ' {
				checkForm(t, text[:i]+gap+text[i:])
				checkGet(t, text[:i]+text[i+1:])
			}
		}
	}
}

func TestGetOfLongLists(t *testing.T) {
	for _, size := range []int{0, 1, 15, 16, 17, 18, 32, 48, 100, 100000} {
		players, items := strings.Repeat(" 7", size), strings.Repeat(" 7 box 8", size)
		for _, text := range []string{
			"look 1 players" + players + " items",
			"look 1 players items" + items,
			"look 1 players" + players + " items" + items,
			"look 1 players" + strings.Repeat(" 0", 16) + " items" + items,
			"own 2 items" + items,
		} {
			if r, err := Get(text); size <= 16 && (told(r) != text || err != api.OK) {
				t.Errorf("Get(%q) = %+v, %d", text, r, err)
			}
			if size > 16 {
				checkForm(t, text)
			}
		}
	}
}

func TestGetOfLongTexts(t *testing.T) {
	const many = 100000
	for _, piece := range []string{"get", "get ", "look ", "look 1 players items ", "own 5 items ", "error 1 ", "1 ", " ", "\x00", "\xff "} {
		checkForm(t, strings.Repeat(piece, many))
	}
	for _, text := range []string{"move ", "error ", "own ", "look 1 players items 5 in ", "look 1 players "} {
		checkForm(t, text+strings.Repeat("0", many))
		checkForm(t, text+strings.Repeat("9", many))
	}
	checkForm(t, "get"+strings.Repeat(" 0", many))
	checkForm(t, "error 1"+strings.Repeat(" ", many))
}

// vocabulary are all words that stand in texts, numbers at the edges, and words that stand in none.
var vocabulary = []string{
	"error", "move", "push", "get", "drop", "put", "take", "give", "trade", "look", "own",
	"players", "items", "in", "with", "box", "coins", "north",
	"0", "7", "13", "14", "1073741824", "1073741825", "05", "+5", "-1", "x", "Get", "\xff", "",
}

func TestGetOfAllShortTexts(t *testing.T) {
	checkShort(t, nil, 3, vocabulary)
	checkShort(t, []string{"own", "5"}, 5, []string{"items", "in", "with", "box", "0", "3", "x"})
	checkShort(t, []string{"look", "1"}, 6, []string{"players", "items", "in", "4", "x"})
	checkShort(t, []string{"look", "1", "players"}, 6, []string{"players", "items", "box", "4", ""})
	checkShort(t, []string{"look", "1", "players", "items"}, 6, []string{"items", "in", "with", "4", "x"})
}

// checkShort holds all texts that begin as told, with at most most words behind, against Get.
func checkShort(t *testing.T, first []string, most int, words []string) {
	t.Helper()
	texts := [][]string{first}
	for range most {
		var longer [][]string
		for _, text := range texts {
			for _, word := range words {
				next := append(slices.Clone(text), word)
				checkWords(t, next)
				longer = append(longer, next)
			}
		}
		texts = longer
	}
}

func checkWords(t *testing.T, words []string) {
	t.Helper()
	checkGet(t, strings.Join(words, " "))
}

func TestGetOfTextsChangedByOneWord(t *testing.T) {
	for _, x := range known {
		words := strings.Split(x.text, " ")
		for i := range len(words) + 1 {
			for _, word := range vocabulary {
				checkWords(t, slices.Insert(slices.Clone(words), i, word))
			}
		}
		for i, own := range words {
			without := slices.Delete(slices.Clone(words), i, i+1)
			checkWords(t, without)
			checkWords(t, slices.Insert(slices.Clone(words), i, own))
			for _, word := range vocabulary {
				checkWords(t, slices.Insert(slices.Clone(without), i, word))
			}
			for j := range len(without) + 1 {
				checkWords(t, slices.Insert(slices.Clone(without), j, own))
			}
		}
	}
}

func TestGetOfTextsChangedByOneByte(t *testing.T) {
	for _, x := range known {
		if len(x.text) > 100 {
			continue
		}
		for i := range len(x.text) + 1 {
			for b := range 256 {
				one := string([]byte{byte(b)})
				checkGet(t, x.text[:i]+one+x.text[i:])
				if i < len(x.text) {
					checkGet(t, x.text[:i]+one+x.text[i+1:])
				}
			}
			checkGet(t, x.text[:i])
			checkGet(t, x.text[i:])
			if i < len(x.text) {
				checkGet(t, x.text[:i]+x.text[i+1:])
			}
		}
	}
}

// P5.3

func TestAnswersAreReadAsTheyWere(t *testing.T) {
	for _, r := range all() {
		text, err := Put(r)
		if err != api.OK {
			t.Fatalf("Put(%+v) = %q, %d", r, text, err)
		}
		got, err := Get(text)
		if !Same(got, r) || err != api.OK {
			t.Errorf("Get(%q) = %+v, %d", text, got, err)
		}
		if again, err := Put(got); again != text || err != api.OK {
			t.Errorf("%q is put as %q", text, again)
		}
	}
}

func TestUnlikeAnswersHaveUnlikeTexts(t *testing.T) {
	owners := map[string]api.Reply{}
	for _, r := range all() {
		text, _ := Put(r)
		if other, ok := owners[text]; ok && !Same(other, r) {
			t.Errorf("%+v and %+v are both %q", other, r, text)
		}
		owners[text] = r
	}
}

// P5.4

// span is where a value's memory begins, and where it ends.
type span struct{ from, to uintptr }

func spanOfText(text string) span {
	from := uintptr(unsafe.Pointer(unsafe.StringData(text)))
	return span{from, from + uintptr(len(text))}
}

// spanOfList has the room behind the list's length in it.
func spanOfList[T any](list []T) span {
	var one T
	from := uintptr(unsafe.Pointer(unsafe.SliceData(list)))
	return span{from, from + uintptr(cap(list))*unsafe.Sizeof(one)}
}

func (a span) meets(b span) bool {
	return a.from < b.to && b.from < a.to
}

func TestPutAnswersNewMemory(t *testing.T) {
	for _, x := range known {
		text, _ := Put(x.r)
		again, _ := Put(x.r)
		if spanOfText(text).meets(spanOfText(again)) || spanOfText(text).meets(spanOfText(x.text)) {
			t.Errorf("the text %q is no new memory", text)
		}
	}
}

func TestListsThatAreHandedInStay(t *testing.T) {
	players := []int{5, 1, 3, 9, 9}
	items := []api.Seen{at(5, 0, 1), at(6, 2, 5), at(8, 1, 8)}
	wantPlayers, wantItems := slices.Clone(players), slices.Clone(items)
	const want = "look 1 players 5 1 items 5 in 1 6 box 5"
	r := api.Reply{Kind: api.Look, Room: 1, Players: players[:2], Items: items[:2]}
	wrong := api.Reply{Kind: api.Own, Players: players[:2], Items: items[:2]}
	text, err := Put(r)
	if text != want || err != api.OK || !May(r) || May(wrong) || Same(r, wrong) {
		t.Errorf("Put makes %q, %d", text, err)
	}
	if _, err := Put(wrong); err != api.ErrForm {
		t.Errorf("Put(%+v) answers %d", wrong, err)
	}
	if !slices.Equal(players, wantPlayers) || !slices.Equal(items, wantItems) || len(r.Players) != 2 || len(r.Items) != 2 {
		t.Errorf("of the lists came %v, %v, %+v", players, items, r)
	}
	players[0], items[0].Item = 8, 8
	if text != want {
		t.Errorf("the text became %q", text)
	}
}

func TestGetAnswersNewMemory(t *testing.T) {
	for _, text := range []string{
		"look 1 players 0 2 items 5 in 1 6 box 5",
		"look 1 players 1 items 1 with 1",
		told(api.Reply{Kind: api.Look, Room: 7, Players: numbersTo(16), Items: itemsTo(16)}),
	} {
		r, _ := Get(text)
		again, _ := Get(text)
		spans := []span{spanOfList(r.Players), spanOfList(r.Items), spanOfList(again.Players), spanOfList(again.Items)}
		for i, a := range spans {
			if a.from == a.to {
				t.Errorf("%q is read as %+v, %+v", text, r, again)
			}
			for _, b := range spans[:i] {
				if a.meets(b) {
					t.Errorf("of %q two lists share memory", text)
				}
			}
		}
		for i := range r.Players[:cap(r.Players)] {
			r.Players[:cap(r.Players)][i] = -5
		}
		clear(r.Items[:cap(r.Items)])
		if told(again) != text {
			t.Errorf("one answer of %q hangs on another: %+v", text, again)
		}
		if got, err := Get(text); told(got) != text || err != api.OK {
			t.Errorf("%q is read as %+v, %d, behind what befell another answer", text, got, err)
		}
	}
}

func TestGetLeavesTheText(t *testing.T) {
	for _, x := range known {
		bytes := []byte(x.text)
		r, err := Get(unsafe.String(&bytes[0], len(bytes)))
		if err != api.OK || string(bytes) != x.text {
			t.Errorf("the text was changed to %q, %d", bytes, err)
		}
		for i := range bytes {
			bytes[i] = '?'
		}
		if !Same(r, x.r) {
			t.Errorf("the text's memory is kept: %+v", r)
		}
	}
}
