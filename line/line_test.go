package line

import (
	"fmt"
	"math"
	"regexp"
	"slices"
	"strconv"
	"strings"
	"testing"
	"unsafe"

	"innkeep/api"
	"innkeep/cmd"
)

const top = api.MaxNumber

// known are commands and their lines, each kind written out, with the kinds' and ways' numbers.
var known = []struct {
	c    api.Cmd
	line string
}{
	{api.Cmd{Kind: 1, Dir: 0}, "move north"},
	{api.Cmd{Kind: 1, Dir: 1}, "move east"},
	{api.Cmd{Kind: 1, Dir: 2}, "move south"},
	{api.Cmd{Kind: 1, Dir: 3}, "move west"},
	{api.Cmd{Kind: 2}, "push 0 north"},
	{api.Cmd{Kind: 2, Who: 1, Dir: 2}, "push 1 south"},
	{api.Cmd{Kind: 2, Who: top, Dir: 3}, "push 1073741824 west"},
	{api.Cmd{Kind: 3}, "get 0"},
	{api.Cmd{Kind: 3, Item: 15}, "get 15"},
	{api.Cmd{Kind: 3, Item: top}, "get 1073741824"},
	{api.Cmd{Kind: 4}, "drop 0"},
	{api.Cmd{Kind: 4, Item: 7}, "drop 7"},
	{api.Cmd{Kind: 5}, "put 0 in 0"},
	{api.Cmd{Kind: 5, Item: 5, Box: 3}, "put 5 in 3"},
	{api.Cmd{Kind: 5, Item: 3, Box: 3}, "put 3 in 3"},
	{api.Cmd{Kind: 6}, "take 0 from 0"},
	{api.Cmd{Kind: 6, Item: 5, Box: 3}, "take 5 from 3"},
	{api.Cmd{Kind: 6, Item: top, Box: top - 1}, "take 1073741824 from 1073741823"},
	{api.Cmd{Kind: 7}, "give 0 to 0"},
	{api.Cmd{Kind: 7, Item: 5, Who: 2}, "give 5 to 2"},
	{api.Cmd{Kind: 8}, "trade 0 give coins 0 for coins 0"},
	{api.Cmd{Kind: 8, Who: 2, Gives: []int{1, 2}, Pay: 5}, "trade 2 give 1 2 coins 5 for coins 0"},
	{api.Cmd{Kind: 8, Who: 1, Wants: []int{0}, Fee: 2}, "trade 1 give coins 0 for 0 coins 2"},
	{api.Cmd{Kind: 8, Who: 1, Gives: []int{7}, Pay: 3, Wants: []int{9, 8}, Fee: 4}, "trade 1 give 7 coins 3 for 9 8 coins 4"},
	{api.Cmd{Kind: 8, Gives: []int{6, 6}, Wants: []int{6}}, "trade 0 give 6 6 coins 0 for 6 coins 0"},
	{api.Cmd{Kind: 8, Gives: numbersTo(16), Wants: slices.Repeat([]int{top}, 16)}, "trade 0 give 0 1 2 3 4 5 6 7 8 9 10 11 12 13 14 15 coins 0 for" + strings.Repeat(" 1073741824", 16) + " coins 0"},
	{api.Cmd{Kind: 9}, "look"},
	{api.Cmd{Kind: 10}, "own"},
}

// numbersTo are the numbers from 0 on.
func numbersTo(n int) []int {
	list := make([]int, n)
	for i := range list {
		list[i] = i
	}
	return list
}

// all are commands that may be of every kind, with their numbers at the edges.
func all() []api.Cmd {
	var list []api.Cmd
	some := []int{0, 1, 10, top - 1, top}
	for dir := range api.Dirs {
		list = append(list, api.Cmd{Kind: api.Move, Dir: dir})
		for _, who := range some {
			list = append(list, api.Cmd{Kind: api.Push, Who: who, Dir: dir})
		}
	}
	for _, n := range some {
		list = append(list, api.Cmd{Kind: api.Get, Item: n}, api.Cmd{Kind: api.Drop, Item: n})
		for _, m := range some {
			list = append(list,
				api.Cmd{Kind: api.Put, Item: n, Box: m},
				api.Cmd{Kind: api.Take, Item: n, Box: m},
				api.Cmd{Kind: api.Give, Item: n, Who: m})
		}
	}
	list = append(list, api.Cmd{Kind: api.Look}, api.Cmd{Kind: api.Own})
	return append(list, trades()...)
}

func trades() []api.Cmd {
	lists := [][]int{nil, {}, {0}, {top}, {5, 1}, {1, 5}, {3, 3, 3}, numbersTo(15), numbersTo(16), slices.Repeat([]int{top}, 16)}
	var all []api.Cmd
	for _, gives := range lists {
		for _, wants := range lists {
			for _, n := range []int{0, 1, top} {
				all = append(all, api.Cmd{Kind: api.Trade, Who: n, Gives: gives, Pay: top - n, Wants: wants, Fee: n / 2})
			}
		}
	}
	return all
}

// told is the line of a command that may be, as the chapter has it.
func told(c api.Cmd) string {
	way := []string{"north", "east", "south", "west"}[c.Dir]
	switch c.Kind {
	case 1:
		return "move " + way
	case 2:
		return fmt.Sprintf("push %d %s", c.Who, way)
	case 3:
		return fmt.Sprintf("get %d", c.Item)
	case 4:
		return fmt.Sprintf("drop %d", c.Item)
	case 5:
		return fmt.Sprintf("put %d in %d", c.Item, c.Box)
	case 6:
		return fmt.Sprintf("take %d from %d", c.Item, c.Box)
	case 7:
		return fmt.Sprintf("give %d to %d", c.Item, c.Who)
	case 8:
		return fmt.Sprintf("trade %d give%s coins %d for%s coins %d", c.Who, toldList(c.Gives), c.Pay, toldList(c.Wants), c.Fee)
	case 9:
		return "look"
	}
	return "own"
}

func toldList(list []int) string {
	text := ""
	for _, n := range list {
		text += fmt.Sprintf(" %d", n)
	}
	return text
}

// shape is what words may be, but for the limits of numbers and of lists.
var shape = regexp.MustCompile(strings.NewReplacer("N", "(?:0|[1-9][0-9]*)", "W", "(?:north|east|south|west)").Replace(
	`\A(?:move W|push N W|get N|drop N|put N in N|take N from N|give N to N|trade N give((?: N)*) coins N for((?: N)*) coins N|look|own)\z`))

// areACommands tells whether the words are a command's that may be.
func areACommands(words []string) bool {
	found := shape.FindStringSubmatch(strings.Join(words, " "))
	if found == nil || strings.Count(found[1], " ") > 16 || strings.Count(found[2], " ") > 16 {
		return false
	}
	for _, word := range words {
		if word[0] <= '9' {
			if n, err := strconv.ParseUint(word, 10, 64); err != nil || n > top {
				return false
			}
		}
	}
	return true
}

// cut are a line's words.
func cut(line string) []string {
	return strings.FieldsFunc(line, func(r rune) bool { return r == 0x20 })
}

// P4.1

func checkPut(t *testing.T, c api.Cmd, want string, wantErr api.Errno) {
	t.Helper()
	if got, err := Put(c); got != want || err != wantErr {
		t.Errorf("Put(%+v) = %q, %d", c, got, err)
	}
}

func TestPutOfKnownCommands(t *testing.T) {
	for _, x := range known {
		checkPut(t, x.c, x.line, api.OK)
	}
}

func TestPutOfAllKinds(t *testing.T) {
	for _, c := range all() {
		checkPut(t, c, told(c), api.OK)
	}
}

func TestPutOfWhatMayNotBe(t *testing.T) {
	for _, c := range []api.Cmd{
		{}, {Kind: 11}, {Kind: -1}, {Kind: math.MaxInt}, {Kind: math.MinInt},
		{Kind: api.Move, Dir: 4}, {Kind: api.Move, Dir: -1}, {Kind: api.Move, Who: 1},
		{Kind: api.Push, Dir: 4}, {Kind: api.Push, Who: top + 1}, {Kind: api.Push, Item: 1},
		{Kind: api.Get, Item: -1}, {Kind: api.Get, Item: top + 1}, {Kind: api.Get, Item: math.MaxInt}, {Kind: api.Get, Box: 1},
		{Kind: api.Drop, Item: -1}, {Kind: api.Drop, Item: top + 1}, {Kind: api.Drop, Dir: 1},
		{Kind: api.Put, Item: 1, Box: -1}, {Kind: api.Put, Item: top + 1, Box: 1}, {Kind: api.Put, Pay: 1},
		{Kind: api.Take, Item: 1, Box: top + 1}, {Kind: api.Take, Item: -1}, {Kind: api.Take, Fee: 1},
		{Kind: api.Give, Item: 1, Who: top + 1}, {Kind: api.Give, Item: math.MinInt}, {Kind: api.Give, Gives: []int{0}},
		{Kind: api.Trade, Who: -1}, {Kind: api.Trade, Pay: top + 1}, {Kind: api.Trade, Fee: -1}, {Kind: api.Trade, Item: 1}, {Kind: api.Trade, Dir: 1},
		{Kind: api.Trade, Gives: numbersTo(17)}, {Kind: api.Trade, Wants: numbersTo(17)}, {Kind: api.Trade, Wants: make([]int, 1000)},
		{Kind: api.Trade, Gives: []int{0, -1}}, {Kind: api.Trade, Wants: []int{0, top + 1}},
		{Kind: api.Look, Item: 1}, {Kind: api.Look, Dir: 1}, {Kind: api.Look, Wants: []int{0}},
		{Kind: api.Own, Pay: 1}, {Kind: api.Own, Gives: []int{0}},
	} {
		checkPut(t, c, "", api.ErrForm)
	}
}

func TestPutOfNumbersAtTheEdges(t *testing.T) {
	edges := []int{math.MinInt, -top, -1, 0, 1, 3, 4, top - 1, top, top + 1, 2 * top, 1 << 32, math.MaxInt}
	for _, x := range known {
		for _, n := range edges {
			for i := range 6 {
				c := x.c
				*[]*int{&c.Dir, &c.Item, &c.Box, &c.Who, &c.Pay, &c.Fee}[i] = n
				if cmd.May(c) {
					checkPut(t, c, told(c), api.OK)
				} else {
					checkPut(t, c, "", api.ErrForm)
				}
			}
		}
	}
}

// P4.2

// checkForm holds a line that is malformed against Get.
func checkForm(t *testing.T, line string) {
	t.Helper()
	if c, err := Get(line); !cmd.Same(c, api.Cmd{}) || err != api.ErrForm {
		t.Errorf("Get(%.200q) = %+v, %d", line, c, err)
	}
}

// checkGet holds a line of any kind against Get.
func checkGet(t *testing.T, line string) {
	t.Helper()
	words := cut(line)
	if !areACommands(words) {
		checkForm(t, line)
		return
	}
	c, err := Get(line)
	if err != api.OK || !cmd.May(c) || told(c) != strings.Join(words, " ") {
		t.Errorf("Get(%.200q) = %+v, %d", line, c, err)
	}
}

func TestGetOfKnownLines(t *testing.T) {
	for _, x := range known {
		if c, err := Get(x.line); !cmd.Same(c, x.c) || err != api.OK {
			t.Errorf("Get(%q) = %+v, %d", x.line, c, err)
		}
		if !areACommands(cut(x.line)) {
			t.Errorf("the tests themselves take %q for malformed", x.line)
		}
	}
}

func TestGetOfNothing(t *testing.T) {
	checkForm(t, "")
	for _, size := range []int{1, 2, 400, 100000} {
		checkForm(t, strings.Repeat(" ", size))
	}
}

func TestGetOfWrongLines(t *testing.T) {
	for _, line := range []string{
		// A word less.
		"move", "push", "push 1", "push north", "get", "drop", "put 5 in", "put 5", "put", "take 5 from", "take",
		"give 5 to", "give", "trade", "trade 1", "trade 1 give", "trade 1 give coins", "trade 1 give coins 0",
		"trade 1 give coins 0 for", "trade 1 give coins 0 for coins", "trade 1 give 2 coins 0 for 3",
		// A word more.
		"look look", "look 0", "own 0", "own own", "move north 0", "move north south", "push 1 north 0", "get 1 2",
		"drop 1 x", "put 5 in 3 3", "take 5 from 3 0", "give 5 to 2 2", "trade 1 give coins 0 for coins 0 0",
		"trade 1 2 give coins 0 for coins 0", "trade 1 give coins 0 0 for coins 0", "trade 1 give coins 0 for coins 0 for",
		// Names of other kinds, of none, and written otherwise.
		"look 1", "own north", "move 1", "get north", "drop 5 in 3", "put 5", "get 5 from 3", "1", "north", "in", "coins", "for 1",
		"go north", "Look", "LOOK", "looks", "loo", "l", "GET 1", "take 1", "mover north", "move North", "move n", "move up", "move 0",
		// Words left out, doubled, others in their stead, and put elsewhere.
		"put 5 3", "take 5 3", "give 5 2", "put 5 on 3", "put 5 from 3", "put 5 to 3", "take 5 in 3", "take 5 to 3", "give 5 in 2", "give 5 from 2",
		"put 5 in in 3", "put in 5 3", "put 5 3 in", "in put 5 3", "take from 5 3", "take 5 from from 3", "give to 2 5", "give 2 5 to", "give 5 to to 2",
		"trade 1 coins 0 for coins 0", "trade 1 give 0 for coins 0", "trade 1 give coins 0 coins 0", "trade 1 give coins 0 for 0",
		"trade 1 give give coins 0 for coins 0", "trade 1 give coins coins 0 for coins 0", "trade 1 give coins 0 for for coins 0", "trade 1 give coins 0 for coins coins 0",
		"trade give 1 coins 0 for coins 0", "trade 1 for coins 0 give coins 0", "trade 1 give coins for 0 coins 0", "trade 1 give 0 coins for 0 coins",
		"trade 1 give 2 3 for coins 0", "trade give coins 0 for coins 0", "trade 1 give coins 0 2 for coins 0", "trade 1 give coins 0 for coins 0 2",
		// What is no number's word.
		"get 05", "get 00", "get +5", "get -5", "get -0", "get -1", "get x", "get five", "get 5.", "get 0x5", "get 1_0", "get 1e3", "get 1,000",
		"drop 01", "push 01 north", "push -1 north", "push x north", "put 05 in 3", "put 5 in 03", "put +5 in 3", "take 5 from -3", "give 5 to 02", "give 5 to x",
		"trade 01 give coins 0 for coins 0", "trade 1 give 02 coins 0 for coins 0", "trade 1 give coins 00 for coins 0", "trade 1 give coins 0 for -2 coins 0",
		"trade 1 give coins 0 for coins +0", "trade 1 give x coins 0 for coins 0", "trade 1 give 1 x 2 coins 0 for coins 0",
		"get 1073741825", "drop 4294967296", "get 9223372036854775808", "get 18446744073709551621", "put 1 in 1073741825", "push 1073741825 north",
		"trade 1 give 1073741825 coins 0 for coins 0", "trade 1 give coins 1073741825 for coins 0", "trade 1 give coins 0 for coins 1073741825",
		// What is no gap.
		"look\n", "\tlook", "get\t5", "get 5\r\n", "get 5\x00", "\x00\xff", "get\u00a05", "\ufefflook", "get \uff15", "get,5", "get5", "movenorth", "move north;",
	} {
		checkForm(t, line)
		checkForm(t, " "+line+"  ")
	}
}

func TestGetOfLongTrades(t *testing.T) {
	for _, size := range []int{0, 1, 15, 16, 17, 18, 32, 100, 100000} {
		side := strings.Repeat(" 7", size)
		for _, line := range []string{
			"trade 1 give" + side + " coins 2 for coins 3",
			"trade 1 give coins 2 for" + side + " coins 3",
			"trade 1 give" + side + " coins 2 for" + side + " coins 3",
		} {
			if c, err := Get(line); size <= 16 && (told(c) != line || err != api.OK) {
				t.Errorf("Get(%q) = %+v, %d", line, c, err)
			}
			if size > 16 {
				checkForm(t, line)
			}
		}
	}
}

func TestGetOfLongLines(t *testing.T) {
	const many = 100000
	for _, piece := range []string{"look", "look ", "get ", "get 5 ", "5 ", "trade 1 give ", "coins 0 ", "\x00", "\xff "} {
		checkForm(t, strings.Repeat(piece, many))
	}
	checkForm(t, "get "+strings.Repeat("0", many))
	checkForm(t, "get "+strings.Repeat("9", many))
	checkForm(t, "look"+strings.Repeat(" 0", many))
}

// vocabulary are all words that stand in lines, numbers at the edges, and words that stand in none.
var vocabulary = []string{
	"move", "push", "get", "drop", "put", "take", "give", "trade", "look", "own",
	"north", "east", "south", "west", "in", "from", "to", "coins", "for",
	"0", "7", "1073741824", "1073741825", "05", "+5", "-1", "x", "Get", "\xff",
}

func TestGetOfAllShortLines(t *testing.T) {
	checkShort(t, 3, vocabulary)
	checkShort(t, 5, []string{"push", "put", "take", "give", "look", "west", "in", "from", "to", "3"})
}

// checkShort holds all lines of at most most words against Get.
func checkShort(t *testing.T, most int, words []string) {
	t.Helper()
	lines := []string{""}
	for range most {
		var longer []string
		for _, line := range lines {
			for _, word := range words {
				next := line + " " + word
				checkGet(t, next)
				longer = append(longer, next)
			}
		}
		lines = longer
	}
}

func TestGetOfAllShortTrades(t *testing.T) {
	lines := []string{"trade 1 give"}
	for range 6 {
		var longer []string
		for _, line := range lines {
			for _, word := range []string{"give", "coins", "for", "4", "x"} {
				next := line + " " + word
				checkGet(t, next)
				checkGet(t, next+" coins 0")
				checkGet(t, next+" for coins 0")
				longer = append(longer, next)
			}
		}
		lines = longer
	}
}

func TestGetOfLinesChangedByOneWord(t *testing.T) {
	for _, x := range known {
		words := cut(x.line)
		for i := range len(words) + 1 {
			for _, word := range vocabulary {
				checkWords(t, slices.Insert(slices.Clone(words), i, word))
			}
		}
		for i, own := range words {
			without := slices.Delete(slices.Clone(words), i, i+1)
			checkWords(t, without)
			checkWords(t, slices.Insert(slices.Clone(words), i, own))
			for _, word := range vocabulary {
				checkWords(t, slices.Insert(slices.Clone(without), i, word))
			}
			for j := range len(without) + 1 {
				checkWords(t, slices.Insert(slices.Clone(without), j, own))
			}
		}
	}
}

func checkWords(t *testing.T, words []string) {
	t.Helper()
	checkGet(t, strings.Join(words, " "))
}

func TestGetOfLinesChangedByOneByte(t *testing.T) {
	for _, x := range known {
		if len(x.line) > 100 {
			continue
		}
		for i := range len(x.line) + 1 {
			for b := range 256 {
				byte := string([]byte{byte(b)})
				checkGet(t, x.line[:i]+byte+x.line[i:])
				if i < len(x.line) {
					checkGet(t, x.line[:i]+byte+x.line[i+1:])
				}
			}
			checkGet(t, x.line[:i])
			checkGet(t, x.line[i:])
			if i < len(x.line) {
				checkGet(t, x.line[:i]+x.line[i+1:])
			}
		}
	}
}

// P4.3

// widths are lines of the same words, with gaps ahead, behind and between.
func widths(line string) []string {
	gap := strings.Repeat(" ", 300)
	return []string{
		line, " " + line, line + " ", "   " + line + "   ", gap + line, line + gap,
		strings.ReplaceAll(line, " ", "  "),
		"  " + strings.ReplaceAll(line, " ", "   ") + " ",
		gap + strings.ReplaceAll(line, " ", gap) + gap,
		strings.Replace(line, " ", gap, 1),
	}
}

func TestCommandsAreReadAsTheyWere(t *testing.T) {
	for _, c := range all() {
		line, err := Put(c)
		if err != api.OK {
			t.Fatalf("Put(%+v) = %q, %d", c, line, err)
		}
		for _, wide := range widths(line) {
			got, err := Get(wide)
			if !cmd.Same(got, c) || err != api.OK {
				t.Errorf("Get(%q) = %+v, %d", wide, got, err)
			}
			if again, err := Put(got); again != line || err != api.OK {
				t.Errorf("%q is put as %q", wide, again)
			}
		}
	}
}

func TestUnlikeCommandsHaveUnlikeLines(t *testing.T) {
	owners := map[string]api.Cmd{}
	for _, c := range all() {
		line, _ := Put(c)
		if other, ok := owners[line]; ok && !cmd.Same(other, c) {
			t.Errorf("%+v and %+v are both %q", other, c, line)
		}
		owners[line] = c
	}
}

func TestGapsWithinWordsSaySomething(t *testing.T) {
	for _, line := range []string{"lo ok", "ge t 5", "move no rth", "put 5 i n 3", "t rade 1 give coins 0 for coins 0", "trade 1 give coins 0 f or coins 0"} {
		checkForm(t, line)
	}
	want := api.Cmd{Kind: api.Trade, Who: 1, Gives: []int{2, 3}, Pay: 4}
	if c, err := Get("trade 1 give 2 3 coins 4 for coins 0"); !cmd.Same(c, want) || err != api.OK {
		t.Errorf("a gap between two numbers: %+v, %d", c, err)
	}
	want.Gives = []int{23}
	if c, err := Get("trade 1 give 23 coins 4 for coins 0"); !cmd.Same(c, want) || err != api.OK {
		t.Errorf("no gap between two digits: %+v, %d", c, err)
	}
}

// P4.4

// span is where a value's memory begins, and where it ends.
type span struct{ from, to uintptr }

func spanOfText(text string) span {
	from := uintptr(unsafe.Pointer(unsafe.StringData(text)))
	return span{from, from + uintptr(len(text))}
}

// spanOfList has the room behind the list's length in it.
func spanOfList(list []int) span {
	from := uintptr(unsafe.Pointer(unsafe.SliceData(list)))
	return span{from, from + uintptr(cap(list))*unsafe.Sizeof(0)}
}

func (a span) meets(b span) bool {
	return a.from < b.to && b.from < a.to
}

func TestPutAnswersNewMemory(t *testing.T) {
	for _, x := range known {
		line, _ := Put(x.c)
		again, _ := Put(x.c)
		if spanOfText(line).meets(spanOfText(again)) || spanOfText(line).meets(spanOfText(x.line)) {
			t.Errorf("the line %q is no new memory", line)
		}
	}
}

func TestPutLeavesTheLists(t *testing.T) {
	room := []int{5, 1, 3, 9, 9}
	want := slices.Clone(room)
	c := api.Cmd{Kind: api.Trade, Who: 1, Gives: room[:2], Wants: room[1:3]}
	line, err := Put(c)
	if line != "trade 1 give 5 1 coins 0 for 1 3 coins 0" || err != api.OK || !slices.Equal(room, want) {
		t.Errorf("Put makes %q, and leaves %v", line, room)
	}
	if len(c.Gives) != 2 || len(c.Wants) != 2 || c.Who != 1 || c.Kind != api.Trade {
		t.Errorf("the command became %+v", c)
	}
	room[0], room[1] = 8, 8
	if line != "trade 1 give 5 1 coins 0 for 1 3 coins 0" {
		t.Errorf("the line became %q", line)
	}
	wrong := api.Cmd{Kind: api.Look, Gives: room[:2]}
	want = slices.Clone(room)
	if _, err := Put(wrong); err != api.ErrForm || !slices.Equal(room, want) {
		t.Errorf("Put of another command leaves %v, %d", room, err)
	}
}

func TestGetAnswersNewMemory(t *testing.T) {
	for _, line := range []string{"trade 1 give 7 coins 3 for 9 8 coins 4", "trade 1 give 1 2 3 coins 0 for 1 2 3 coins 0", told(api.Cmd{Kind: api.Trade, Gives: numbersTo(16), Wants: numbersTo(16)})} {
		c, _ := Get(line)
		again, _ := Get(line)
		lists := [][]int{c.Gives, c.Wants, again.Gives, again.Wants}
		for i, a := range lists {
			if len(a) == 0 {
				t.Errorf("%q is read as %+v", line, c)
			}
			for _, b := range lists[:i] {
				if spanOfList(a).meets(spanOfList(b)) {
					t.Errorf("of %q two lists share memory", line)
				}
			}
		}
		want, _ := Put(again)
		for _, list := range [][]int{c.Gives[:cap(c.Gives)], c.Wants[:cap(c.Wants)]} {
			for i := range list {
				list[i] = -5
			}
		}
		if got, err := Put(again); got != want || err != api.OK {
			t.Errorf("one answer of %q hangs on another", line)
		}
		if got, err := Get(line); told(got) != line || err != api.OK {
			t.Errorf("%q is read as %+v, %d, behind what befell another answer", line, got, err)
		}
	}
}

func TestGetLeavesTheLine(t *testing.T) {
	for _, x := range known {
		bytes := []byte(x.line + " ")
		c, err := Get(unsafe.String(&bytes[0], len(bytes)))
		if err != api.OK || string(bytes) != x.line+" " {
			t.Errorf("the line was changed to %q, %d", bytes, err)
		}
		for i := range bytes {
			bytes[i] = '?'
		}
		if !cmd.Same(c, x.c) {
			t.Errorf("the line's memory is kept: %+v", c)
		}
	}
}
