package sess

import (
	"fmt"
	"testing"

	"innkeep/api"
	"innkeep/cmd"
	"innkeep/line"
)

// P19.2

// pick is a number below many, by a seed.
func pick(seed *uint32, many int) int {
	*seed = *seed*1664525 + 1013904223
	return int(*seed>>8) % many
}

// side is one side of a trade.
func side(seed *uint32) []int {
	var list []int
	for range pick(seed, 5) {
		list = append(list, pick(seed, 1000))
	}
	return list
}

// anyCmd is a command of any kind, with its number in it, so that few are alike.
func anyCmd(seed *uint32, n int) api.Cmd {
	switch kind := 1 + pick(seed, 10); kind {
	case api.Move:
		return api.Cmd{Kind: kind, Dir: pick(seed, 4)}
	case api.Push:
		return api.Cmd{Kind: kind, Who: n, Dir: pick(seed, 4)}
	case api.Get, api.Drop:
		return api.Cmd{Kind: kind, Item: n}
	case api.Put, api.Take:
		return api.Cmd{Kind: kind, Item: n, Box: pick(seed, 1000)}
	case api.Give:
		return api.Cmd{Kind: kind, Item: n, Who: pick(seed, 1000)}
	case api.Trade:
		return api.Cmd{Kind: kind, Who: n, Gives: side(seed), Pay: pick(seed, 1000), Wants: side(seed), Fee: pick(seed, 1000)}
	default:
		return api.Cmd{Kind: kind}
	}
}

// anyLines are lines, and the commands whose they are; the zero one of malformed lines.
func anyLines(t *testing.T, seed *uint32, many int) ([]string, []api.Cmd) {
	t.Helper()
	var lines []string
	var cmds []api.Cmd
	for n := range many {
		if pick(seed, 4) == 0 {
			lines, cmds = append(lines, malformed[pick(seed, len(malformed))]), append(cmds, api.Cmd{})
			continue
		}
		c := anyCmd(seed, n)
		text, err := line.Put(c)
		if err != api.OK {
			t.Fatalf("there is no line of %+v", c)
		}
		lines, cmds = append(lines, text), append(cmds, c)
	}
	return lines, cmds
}

// busy is a session whose command is under way: what isn't its player, lines, Next, Cmd and Tries is one of the list's.
func busy(seed *uint32, list []other, s api.Sess) api.Sess {
	next := list[pick(seed, len(list))].s
	next.Player, next.Lines, next.Next, next.Cmd, next.Tries = s.Player, s.Lines, s.Next, s.Cmd, s.Tries+pick(seed, 3)
	next.Phase = 1 + pick(seed, 11)
	return next
}

// checkOpened holds a session that has begun the line against that line's command.
func checkOpened(t *testing.T, why string, o api.Sess, c api.Cmd) {
	t.Helper()
	phase, reply := 1, api.Reply{}
	switch c.Kind {
	case 0:
		phase, reply = 8, api.Reply{Err: 2}
	case 9, 10:
		phase = 9
	}
	want := api.Sess{Player: o.Player, Lines: o.Lines, Next: o.Next, Phase: phase, Cmd: c, Reply: reply}
	check(t, why, o, want)
}

// checkThrough opens and closes a session as often as it has lines; between has each command's way between the two.
func checkThrough(t *testing.T, lines []string, cmds []api.Cmd, between func(o api.Sess) api.Sess) {
	t.Helper()
	s := New(api.Script{Player: 5, Lines: lines})
	for n, c := range cmds {
		why := fmt.Sprintf("the line %d, %q", n, lines[n])
		check(t, why+" ahead", s, api.Sess{Player: 5, Lines: lines, Next: n})
		o := Open(s)
		checkOpened(t, why, o, c)
		o = between(o)
		if !cmd.Same(o.Cmd, c) || o.Next != n || o.Player != 5 {
			t.Errorf("%s: under way the session is %s", why, text(o))
		}
		s = Close(o)
	}
	check(t, "behind all lines", s, api.Sess{Player: 5, Lines: lines, Next: len(lines), Phase: 12})
}

func TestOpenedAndClosedASessionIsDone(t *testing.T) {
	seed := uint32(19)
	for many := range 40 {
		for range 10 {
			lines, cmds := anyLines(t, &seed, many)
			checkThrough(t, lines, cmds, func(o api.Sess) api.Sess { return o })
		}
	}
}

func TestASessionIsDoneWhateverIsBetween(t *testing.T) {
	seed, list := uint32(58), others(full())
	for many := range 33 {
		lines, cmds := anyLines(t, &seed, many)
		checkThrough(t, lines, cmds, func(o api.Sess) api.Sess { return busy(&seed, list, o) })
	}
}

func TestASessionIsDoneHoweverOftenItBeginsAnew(t *testing.T) {
	seed, list := uint32(7), others(full())
	for many := range 33 {
		lines, cmds := anyLines(t, &seed, many)
		checkThrough(t, lines, cmds, func(o api.Sess) api.Sess {
			for range pick(&seed, 4) {
				o = busy(&seed, list, Anew(busy(&seed, list, o)))
			}
			return o
		})
	}
}

func TestASessionOfTheSameLinesIsDone(t *testing.T) {
	for _, x := range begins {
		for many := range 6 {
			var lines []string
			var cmds []api.Cmd
			for range many {
				lines, cmds = append(lines, x.line), append(cmds, x.c)
			}
			checkThrough(t, lines, cmds, func(o api.Sess) api.Sess { return o })
		}
	}
}

// TestASessionIsNotDoneAheadOfItsLastLine counts how often it has to be opened and closed.
func TestASessionIsNotDoneAheadOfItsLastLine(t *testing.T) {
	seed := uint32(3)
	for many := range 33 {
		lines, _ := anyLines(t, &seed, many)
		n := 0
		for s := New(api.Script{Lines: lines}); s.Phase != api.Done; s = Close(Open(s)) {
			n++
			if n > many {
				break
			}
		}
		if n != many {
			t.Errorf("of %d lines a session is done behind %d", many, n)
		}
	}
}
