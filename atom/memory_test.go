package atom

import (
	"math"
	"slices"
	"testing"

	"innkeep/api"
	"innkeep/desc"
	"innkeep/reply"
)

// P13.3

// roomy is a list like this one, with room behind its length in which something stands.
func roomy[T any](list []T, behind T) []T {
	return append(slices.Clone(list), behind, behind, behind)[:len(list)]
}

// whole is a list with the room behind its length.
func whole[T any](list []T) []T {
	return list[:cap(list)]
}

// fill writes all over a list, the room behind its length included.
func fill[T any](list []T, with T) {
	for i := range whole(list) {
		whole(list)[i] = with
	}
}

// roomyWorld is a world with such room behind all its lists; what stands there would tell, if it were looked at.
func roomyWorld(w api.World) api.World {
	d := &w.Desc
	d.Exits = roomy(d.Exits, [4]int{1, 1, 1, 1})
	d.Players, d.Coins, d.Items, d.Boxes = roomy(d.Players, 0), roomy(d.Coins, 7), roomy(d.Items, 0), roomy(d.Boxes, true)
	w.At, w.Coins, w.Where = roomy(w.At, 0), roomy(w.Coins, 7), roomy(w.Where, inPlayer(1))
	return w
}

// roomyCmd is a command with such room behind its lists.
func roomyCmd(c api.Cmd) api.Cmd {
	c.Gives, c.Wants = roomy(c.Gives, 0), roomy(c.Wants, 0)
	return c
}

// lists are a world's lists, with the room behind their lengths, as texts.
func lists(w api.World) map[string]string {
	return map[string]string{
		"Exits":   text(whole(w.Desc.Exits)),
		"Players": text(whole(w.Desc.Players)),
		"purses":  text(whole(w.Desc.Coins)),
		"Items":   text(whole(w.Desc.Items)),
		"Boxes":   text(whole(w.Desc.Boxes)),
		"At":      text(whole(w.At)),
		"Coins":   text(whole(w.Coins)),
		"Where":   text(whole(w.Where)),
		"all":     text(w),
	}
}

// cmdText is all that a command has, the room behind its lists included.
func cmdText(c api.Cmd) string {
	return text(c) + text(whole(c.Gives)) + text(whole(c.Wants))
}

// callsText is all that calls have, the room behind all lists included.
func callsText(calls []api.Call) string {
	all := text(whole(calls))
	for _, call := range whole(calls) {
		all += cmdText(call.Cmd) + replyText(call.Reply)
	}
	return all
}

// replyText is all that an answer has, the room behind its lists included.
func replyText(r api.Reply) string {
	return text(r) + text(whole(r.Players)) + text(whole(r.Items))
}

// spoilers write all over one of a world's lists, the room behind its length included.
func spoilers() map[string]func(w api.World) {
	return map[string]func(w api.World){
		"Exits":   func(w api.World) { fill(w.Desc.Exits, [4]int{-9, -9, -9, -9}) },
		"Players": func(w api.World) { fill(w.Desc.Players, -8) },
		"purses":  func(w api.World) { fill(w.Desc.Coins, -7) },
		"Items":   func(w api.World) { fill(w.Desc.Items, -6) },
		"Boxes":   func(w api.World) { fill(w.Desc.Boxes, !w.Desc.Boxes[0]) },
		"At":      func(w api.World) { fill(w.At, -5) },
		"Coins":   func(w api.World) { fill(w.Coins, -4) },
		"Where":   func(w api.World) { fill(w.Where, api.Place{Kind: -3, Id: -3}) },
	}
}

func spoilWorld(w api.World) {
	for _, spoil := range spoilers() {
		spoil(w)
	}
}

func spoilReply(r api.Reply) {
	fill(r.Players, -9)
	fill(r.Items, api.Seen{Item: -8, At: api.Place{Kind: -7, Id: -6}})
}

// checkLists holds a world's lists, but for one, against what they were.
func checkLists(t *testing.T, what string, w api.World, want map[string]string, but string) {
	t.Helper()
	for name, got := range lists(w) {
		if got != want[name] && name != but && (name != "all" || but == "") {
			t.Errorf("%s: %s became %s, and was %s", what, name, got, want[name])
		}
	}
}

// bad are commands that are answered with an error, each by the player 1 of a house: some of each kind.
func bad() []api.Cmd {
	return []api.Cmd{
		{Kind: 1, Dir: 2},
		{Kind: 2, Who: 0},
		{Kind: 2, Who: 2, Dir: 2},
		{Kind: 3, Item: 10},
		{Kind: 4, Item: 6},
		{Kind: 5, Item: 0, Box: 5},
		{Kind: 5, Item: 0, Box: 2},
		{Kind: 6, Item: 1, Box: 9},
		{Kind: 7, Item: 0, Who: 1},
		swap(2, list(0, 9, 0), 0, list(7), 0),
		swap(2, list(0, 9), 0, list(7, 8), 0),
		swap(2, list(0, 9), 18, list(7, 13), 0),
		swap(2, make([]int, 17), 0, nil, 0),
		{Kind: 9, Gives: list(0)},
		{Kind: 10, Fee: 1},
		{},
	}
}

func TestWhatIsHandedInStays(t *testing.T) {
	w := roomyWorld(house())
	checkRight(t, w)
	want := lists(w)
	for _, c := range slices.Concat(good(), bad()) {
		c = roomyCmd(c)
		before := cmdText(c)
		for p := range w.At {
			Do(w, p, c)
			checkLists(t, text(c), w, want, "")
			if got := cmdText(c); got != before {
				t.Errorf("the command became %s, and was %s", got, before)
			}
		}
	}
}

// busy are calls of a house, with room behind all lists: good and bad ones, of more players than one.
func busy() []api.Call {
	seen := api.Reply{Kind: 9, Players: roomy(list(3), 4), Items: roomy([]api.Seen{{Item: 5}}, api.Seen{Item: 6})}
	behind := api.Call{Player: 1, Cmd: roomyCmd(api.Cmd{Kind: 4, Item: 0}), Reply: seen}
	var calls []api.Call
	for n, c := range slices.Concat(bad(), good()) {
		calls = append(calls, api.Call{Player: n % 5, Cmd: roomyCmd(c), From: n, To: -1, Reply: seen})
		calls = append(calls, api.Call{Player: 1, Cmd: roomyCmd(api.Cmd{Kind: 9 + n%2})})
		calls = append(calls, api.Call{Player: 2, Cmd: roomyCmd(swap(1, list(13), 1, nil, 0))})
		calls = append(calls, api.Call{Player: 1, Cmd: roomyCmd(swap(2, list(13), 0, nil, 1))})
	}
	return roomy(calls, behind)
}

// quiet are calls of a house by which nothing changes.
func quiet() []api.Call {
	var calls []api.Call
	for _, c := range bad() {
		calls = append(calls, api.Call{Player: 1, Cmd: c}, api.Call{Player: 0, Cmd: api.Cmd{Kind: 9}}, api.Call{Player: 2, Cmd: api.Cmd{Kind: 10}})
	}
	return calls
}

func TestWhatIsHandedInToAllStays(t *testing.T) {
	w, calls := roomyWorld(house()), busy()
	want, wantCalls := lists(w), callsText(calls)
	next, replies := All(w, calls)
	if desc.Same(next, w) {
		t.Error("nothing was changed")
	}
	checkLists(t, "by All", w, want, "")
	if got := callsText(calls); got != wantCalls {
		t.Errorf("the calls became %s, and were %s", got, wantCalls)
	}
	spoilWorld(next)
	for _, r := range replies {
		spoilReply(r)
	}
	fill(replies, api.Reply{Err: -9})
	checkLists(t, "by writing into what is answered", w, want, "")
	if got := callsText(calls); got != wantCalls {
		t.Errorf("by writing into what is answered the calls became %s, and were %s", got, wantCalls)
	}
}

func TestWhatStandsBehindTheListsIsNotLookedAt(t *testing.T) {
	w := roomyWorld(house())
	w.At, w.Coins, w.Desc.Players, w.Desc.Coins = w.At[:3], w.Coins[:3], w.Desc.Players[:3], w.Desc.Coins[:3]
	w.Where, w.Desc.Items, w.Desc.Boxes = w.Where[:13], w.Desc.Items[:13], w.Desc.Boxes[:13]
	checkRight(t, w)
	check(t, "an item behind", w, 1, api.Cmd{Kind: 4, Item: 15}, w, failed(api.ErrNone))
	check(t, "a player behind", w, 1, swap(3, nil, 0, nil, 0), w, failed(api.ErrNone))
	for _, c := range slices.Concat(good(), bad()) {
		wantNext, want := model(w, 1, c)
		check(t, "with less behind", w, 1, roomyCmd(c), wantNext, want)
	}
	calls := busy()[:3]
	if next, replies := All(w, calls); len(replies) != 3 || next.Where[0] != inPlayer(1) {
		t.Errorf("All of three calls answers %+v, %+v", next, replies)
	}
}

func TestAWorldThatChangesIsNewMemory(t *testing.T) {
	for _, c := range good()[:8] {
		for name, spoil := range spoilers() {
			w := roomyWorld(house())
			first, _ := Do(w, 1, c)
			second, _ := Do(w, 1, c)
			third, _ := All(w, []api.Call{{Player: 1, Cmd: c}, {Player: 1, Cmd: api.Cmd{Kind: 9}}, {Player: 1}})
			want, wantFirst, wantSecond, wantThird := lists(w), lists(first), lists(second), lists(third)
			spoil(first)
			if lists(first)[name] == wantFirst[name] {
				t.Errorf("%+v: nothing was written into %s", c, name)
			}
			checkLists(t, text(c)+", handed in", w, want, "")
			checkLists(t, text(c)+", the same answer", first, wantFirst, name)
			checkLists(t, text(c)+", another answer", second, wantSecond, "")
			checkLists(t, text(c)+", All's answer", third, wantThird, "")
			spoil(third)
			checkLists(t, text(c)+", handed in to All", w, want, "")
			checkLists(t, text(c)+", another answer than All's", second, wantSecond, "")
			spoil(w)
			checkLists(t, text(c)+", an answer, when what was handed in was written into", second, wantSecond, "")
		}
	}
}

func TestAnswersOfOneCallShareNone(t *testing.T) {
	w, calls := roomyWorld(house()), busy()
	last, replies := All(w, calls)
	want := lists(last)
	var before []string
	for _, r := range replies {
		before = append(before, replyText(r))
	}
	for n, r := range replies {
		if got := replyText(r); got != before[n] {
			t.Errorf("by writing into another answer the answer %d became %s, and was %s", n, got, before[n])
		}
		items := text(whole(r.Items))
		fill(r.Players, -9)
		if got := text(whole(r.Items)); got != items {
			t.Errorf("by writing into Players Items became %s, and were %s", got, items)
		}
		spoilReply(r)
		checkLists(t, "the world, by writing into an answer", last, want, "")
	}
}

func TestAnswersOfTwoCallsShareNone(t *testing.T) {
	w, calls := roomyWorld(house()), busy()
	want, _ := All(w, calls)
	first, firstReplies := All(w, calls)
	second, secondReplies := All(w, calls)
	wantSecond := text(secondReplies)
	spoilWorld(first)
	for _, r := range firstReplies {
		spoilReply(r)
	}
	fill(firstReplies, api.Reply{Err: -9})
	if !desc.Same(second, want) || text(secondReplies) != wantSecond {
		t.Errorf("by writing into one answer another one became %+v, %+v, and was %+v, %s", second, secondReplies, want, wantSecond)
	}
}

func TestWhatIsHandedInIsNotKept(t *testing.T) {
	w, calls := roomyWorld(house()), busy()
	last, replies := All(w, calls)
	want, wantReplies := lists(last), text(replies)
	spoilWorld(w)
	for _, call := range whole(calls) {
		fill(call.Cmd.Gives, -9)
		fill(call.Cmd.Wants, -9)
		spoilReply(call.Reply)
	}
	fill(calls, api.Call{})
	checkLists(t, "by writing into what was handed in", last, want, "")
	if got := text(replies); got != wantReplies {
		t.Errorf("by writing into what was handed in answers became %s, and were %s", got, wantReplies)
	}
}

func TestWhatIsSeenIsNotTheWorlds(t *testing.T) {
	w := roomyWorld(house())
	want := lists(w)
	for p := range w.At {
		for _, kind := range []int{9, 10} {
			first, r := Do(w, p, api.Cmd{Kind: kind})
			_, second := Do(w, p, api.Cmd{Kind: kind})
			wantSecond := replyText(second)
			spoilReply(r)
			checkLists(t, "handed in", w, want, "")
			checkLists(t, "answered", first, want, "")
			if !desc.Same(first, w) {
				t.Errorf("by looking the world became %+v", first)
			}
			if got := replyText(second); got != wantSecond {
				t.Errorf("by writing into one answer another one became %s, and was %s", got, wantSecond)
			}
		}
	}
	if next, _ := All(w, quiet()); !desc.Same(next, w) {
		t.Errorf("by calls that change nothing the world became %+v", next)
	}
}

func TestCallsHangOnTheirArgumentsAlone(t *testing.T) {
	w, calls := house(), busy()
	next, replies := All(w, calls)
	want := text(next) + text(replies)
	All(inn(t), calls[:2])
	All(sized(8, 7, 7, 7, 7, 7, 7), calls)
	next, replies = All(w, calls)
	if got := text(next) + text(replies); got != want {
		t.Errorf("the answer became %s, and was %s", got, want)
	}
	next, replies = All(roomyWorld(w), calls)
	if got := text(next) + text(replies); got != want {
		t.Errorf("with room behind the lists the answer is %s, not %s", got, want)
	}
}

// Whatever is handed in, calls end, and none panics.

// wrongWorlds are worlds that aren't right, for the most part.
func wrongWorlds(numbers []int) []api.World {
	odd, lost, few, poor, bare, plain, many := house(), house(), house(), house(), house(), house(), house()
	odd.At = []int{-1, 8, math.MaxInt, math.MinInt, 0}
	odd.Coins = []int{-1, math.MaxInt, math.MinInt, maxCoins + 1, 0}
	for item := range lost.Where {
		lost.Where[item] = api.Place{Kind: numbers[item%len(numbers)], Id: numbers[len(numbers)-1-item%len(numbers)]}
	}
	few.At = few.At[:2]
	poor.Coins = poor.Coins[:1]
	bare.Where = nil
	plain.Desc.Boxes, plain.Desc.Exits = nil, plain.Desc.Exits[:1]
	plain.Desc.Exits[0] = [4]int{-2, 9, math.MaxInt, math.MinInt}
	many.At, many.Coins, many.Where = make([]int, 40), make([]int, 40), slices.Repeat([]api.Place{inRoom(0), inPlayer(0), inPlayer(1), inBox(1)}, 10)
	knot := with(sized(1, 0, 0), inBox(1), inBox(0), inBox(2), inBox(math.MaxInt), inPlayer(-1), inPlayer(7), inPlayer(0), inPlayer(1), inRoom(0))
	below := capped(house(), math.MinInt, math.MinInt, math.MinInt)
	return []api.World{{}, {At: []int{0, 0}}, {Coins: []int{5}}, {At: []int{0, 0}, Where: []api.Place{{}, {Kind: 1}}}, {Desc: house().Desc}, house(), odd, lost, few, poor, bare, plain, many, knot, below}
}

// wrongCommands are commands of all kinds, and of others, with these numbers.
func wrongCommands(numbers []int) []api.Cmd {
	all := slices.Concat(good(), bad())
	for kind := -1; kind <= 11; kind++ {
		for _, n := range numbers {
			for _, m := range numbers {
				all = append(all,
					api.Cmd{Kind: kind, Dir: n}, api.Cmd{Kind: kind, Who: n, Dir: m}, api.Cmd{Kind: kind, Item: n, Box: m}, api.Cmd{Kind: kind, Item: n, Who: m},
					api.Cmd{Kind: kind, Who: n, Gives: list(m), Wants: list(n)}, api.Cmd{Kind: kind, Who: n, Pay: m, Fee: n})
			}
		}
	}
	return all
}

func TestWrongArgumentsEndAndDoNotPanic(t *testing.T) {
	numbers := []int{math.MinInt, -1 << 32, -1, 0, 1, 2, 3, 4, 5, 15, 16, 39, 1 << 30, 1 << 32, math.MaxInt}
	commands := wrongCommands(numbers)
	for _, w := range wrongWorlds(numbers) {
		want := text(w)
		for n, c := range commands {
			Do(w, n%3, c)
			Do(w, numbers[n%len(numbers)], c)
		}
		var calls []api.Call
		for n, c := range commands {
			calls = append(calls, api.Call{Player: numbers[n%len(numbers)], Cmd: c})
		}
		if _, replies := All(w, calls); len(replies) != len(calls) {
			t.Errorf("%d calls have %d answers", len(calls), len(replies))
		}
		if got := text(w); got != want {
			t.Errorf("the world became %s, and was %s", got, want)
		}
	}
}

func TestPlayersThatThereAreNotChangeNothing(t *testing.T) {
	w := house()
	for _, p := range []int{math.MinInt, -1, 5, 6, 8, 16, 1 << 32, math.MaxInt} {
		for _, c := range slices.Concat(good(), bad()) {
			next, r := Do(w, p, c)
			if !desc.Same(next, w) {
				t.Errorf("%+v of %d makes %+v", c, p, next)
			}
			if r.Err == api.OK && !reply.Same(r, api.Reply{}) {
				t.Errorf("%+v of %d is answered %+v", c, p, r)
			}
		}
	}
}

func TestCommandsOfManyItemsEnd(t *testing.T) {
	w := house()
	check(t, "many", w, 1, swap(2, make([]int, 1<<20), 0, make([]int, 1<<20), 0), w, failed(api.ErrForm))
}
