package sess

import (
	"fmt"
	"reflect"
	"slices"
	"strings"
	"testing"

	"innkeep/api"
)

// other is a session that differs from another one in one thing alone, and where that is.
type other struct {
	path string
	s    api.Sess
}

// isOf tells whether what differs is of one of these fields of a session.
func (o other) isOf(fields ...string) bool {
	return slices.ContainsFunc(fields, func(field string) bool {
		return o.path == field || strings.HasPrefix(o.path, field+".") || strings.HasPrefix(o.path, field+"[") || strings.HasPrefix(o.path, field+" ")
	})
}

// others are sessions that differ from this one in one field each, or in one list's length or order, or in one field of one element.
func others(first api.Sess) []other {
	var list []other
	for many := 0; ; many++ {
		s, n, path := deepCopy(first), many, ""
		walk(reflect.ValueOf(&s).Elem(), "", func(at string, v reflect.Value, change func()) {
			if n == 0 {
				path = strings.TrimPrefix(at, ".")
				change()
			}
			n--
		})
		if path == "" {
			return list
		}
		list = append(list, other{path, s})
	}
}

// walk calls visit for each change that may be done to a value.
func walk(v reflect.Value, at string, visit func(at string, v reflect.Value, change func())) {
	switch v.Kind() {
	case reflect.Struct:
		for i := range v.NumField() {
			walk(v.Field(i), at+"."+v.Type().Field(i).Name, visit)
		}
	case reflect.Slice:
		for i := range v.Len() {
			walk(v.Index(i), fmt.Sprintf("%s[%d]", at, i), visit)
		}
		walkList(v, at, visit)
	case reflect.Int:
		n := v.Int()
		visit(at+" one more", v, func() { v.SetInt(n + 1) })
		visit(at+" one less", v, func() { v.SetInt(n - 1) })
		visit(at+" with another sign", v, func() { v.SetInt(-n) })
		visit(at+" by a higher bit", v, func() { v.SetInt(n + 1<<32) })
		visit(at+" zero", v, func() { v.SetInt(0) })
	case reflect.Bool:
		visit(at+" turned", v, func() { v.SetBool(!v.Bool()) })
	case reflect.String:
		visit(at+" longer", v, func() { v.SetString(v.String() + " ") })
		visit(at+" shorter", v, func() { v.SetString(v.String()[1:]) })
		visit(at+" none", v, func() { v.SetString("") })
	default:
		panic("a field of an unknown kind at " + at)
	}
}

func walkList(v reflect.Value, at string, visit func(at string, v reflect.Value, change func())) {
	many := v.Len()
	visit(at+" none", v, func() { v.SetZero() })
	visit(at+" without its last", v, func() { v.Set(v.Slice(0, many-1)) })
	visit(at+" without its first", v, func() { v.Set(v.Slice(1, many)) })
	visit(at+" and its last once more", v, func() { v.Set(reflect.Append(v, v.Index(many-1))) })
	visit(at+" and a zero one", v, func() { v.Set(reflect.Append(v, reflect.Zero(v.Type().Elem()))) })
	visit(at+" in another order", v, func() { reflect.Swapper(v.Interface())(0, many-1) })
}

// deepCopy shares no list with the session, its Lines included.
func deepCopy(s api.Sess) api.Sess {
	s.Lines, s.Foot, s.Plan, s.Copies, s.Heads = slices.Clone(s.Lines), slices.Clone(s.Foot), slices.Clone(s.Plan), slices.Clone(s.Copies), slices.Clone(s.Heads)
	s.Cmd.Gives, s.Cmd.Wants = slices.Clone(s.Cmd.Gives), slices.Clone(s.Cmd.Wants)
	s.Reply.Players, s.Reply.Items = slices.Clone(s.Reply.Players), slices.Clone(s.Reply.Items)
	return s
}

// The tests themselves: a field that full leaves zero would be told of by nobody.
func TestTheFullSessionSaysSomethingInEveryField(t *testing.T) {
	s := full()
	walk(reflect.ValueOf(&s).Elem(), "", func(at string, v reflect.Value, change func()) {
		if v.IsZero() {
			t.Errorf("%s says nothing", at)
		}
	})
	seen := map[string]bool{}
	for _, x := range others(s) {
		if text(x.s) == text(s) || seen[x.path] {
			t.Errorf("%s doesn't differ, or not alone: %s", x.path, text(x.s))
		}
		seen[x.path] = true
	}
	if len(seen) < 200 {
		t.Errorf("there are only %d others", len(seen))
	}
}

// P19.1, Same

func checkSame(t *testing.T, why string, a, b api.Sess, want bool) {
	t.Helper()
	if Same(a, b) != want || Same(b, a) != want {
		t.Errorf("%s: that\n%s and\n%s are the same isn't %v", why, text(a), text(b), want)
	}
}

func TestSameOfASessionAndItself(t *testing.T) {
	s := full()
	checkSame(t, "itself", s, s, true)
	checkSame(t, "the zero one", api.Sess{}, api.Sess{}, true)
	checkSame(t, "one like it", full(), full(), true)
	checkSame(t, "a copy", s, deepCopy(s), true)
	checkSame(t, "a full one, and the zero one", full(), api.Sess{}, false)
	for _, x := range others(s) {
		checkSame(t, x.path, x.s, x.s, true)
		checkSame(t, x.path, x.s, deepCopy(x.s), true)
	}
}

func TestSameOfSessionsThatDifferInOneThing(t *testing.T) {
	for _, x := range others(full()) {
		checkSame(t, x.path, full(), x.s, false)
	}
}

// TestSameOfOneFieldAlone: of two sessions in which nothing else says anything.
func TestSameOfOneFieldAlone(t *testing.T) {
	for i := range reflect.TypeFor[api.Sess]().NumField() {
		var s api.Sess
		reflect.ValueOf(&s).Elem().Field(i).Set(reflect.ValueOf(full()).Field(i))
		why := reflect.TypeFor[api.Sess]().Field(i).Name
		checkSame(t, why, s, api.Sess{}, false)
		checkSame(t, why, s, deepCopy(s), true)
		checkSame(t, why, s, full(), false)
	}
}

func TestSameOfSessionsThatDifferInTwoThings(t *testing.T) {
	list := others(full())
	for i, a := range list {
		for _, b := range list[:i] {
			if want := text(a.s) == text(b.s); Same(a.s, b.s) != want || Same(b.s, a.s) != want {
				t.Errorf("%s, and %s: that they are the same isn't %v", a.path, b.path, want)
			}
		}
	}
}

// TestSameOfFieldsTurnedAbout: what two fields say together is not all that counts.
func TestSameOfFieldsTurnedAbout(t *testing.T) {
	checkSame(t, "Player and Next", api.Sess{Player: 1}, api.Sess{Next: 1}, false)
	checkSame(t, "Phase and Step", api.Sess{Phase: 1, Step: 2}, api.Sess{Phase: 2, Step: 1}, false)
	checkSame(t, "Has and Tries", api.Sess{Has: 1, Tries: 2}, api.Sess{Has: 2, Tries: 1}, false)
	checkSame(t, "Ver and Room", api.Sess{Ver: 1, Room: 2}, api.Sess{Ver: 2, Room: 1}, false)
	checkSame(t, "Room and Purse", api.Sess{Room: 5}, api.Sess{Purse: 5}, false)
	checkSame(t, "Heads and Players", api.Sess{Heads: []int{1}}, api.Sess{Reply: api.Reply{Players: []int{1}}}, false)
	checkSame(t, "Gives and Wants", api.Sess{Cmd: api.Cmd{Gives: []int{1}}}, api.Sess{Cmd: api.Cmd{Wants: []int{1}}}, false)
	checkSame(t, "Kinds", api.Sess{Cmd: api.Cmd{Kind: 3}}, api.Sess{Reply: api.Reply{Kind: 3}}, false)
	checkSame(t, "one line, or two", api.Sess{Lines: []string{"get 1"}}, api.Sess{Lines: []string{"get", "1"}}, false)
	checkSame(t, "a line cut elsewhere", api.Sess{Lines: []string{"get", " 1"}}, api.Sess{Lines: []string{"get ", "1"}}, false)
	checkSame(t, "a gap more", api.Sess{Lines: []string{"get 1"}}, api.Sess{Lines: []string{"get  1"}}, false)
	checkSame(t, "an empty line, or none", api.Sess{Lines: []string{""}}, api.Sess{}, false)
}

// empty is a session all of whose lists are empty, but not nil.
func empty(s api.Sess) api.Sess {
	s.Lines, s.Foot, s.Plan, s.Copies, s.Heads = []string{}, []api.Key{}, []api.Write{}, []api.Place{}, []int{}
	s.Cmd.Gives, s.Cmd.Wants, s.Reply.Players, s.Reply.Items = []int{}, []int{}, []int{}, []api.Seen{}
	return s
}

// bare is a session all of whose lists are nil.
func bare(s api.Sess) api.Sess {
	s.Lines, s.Foot, s.Plan, s.Copies, s.Heads = nil, nil, nil, nil, nil
	s.Cmd.Gives, s.Cmd.Wants, s.Reply.Players, s.Reply.Items = nil, nil, nil, nil
	return s
}

func TestSameOfNilAndEmptyLists(t *testing.T) {
	checkSame(t, "nothing else", empty(api.Sess{}), api.Sess{}, true)
	checkSame(t, "much else", empty(full()), bare(full()), true)
	checkSame(t, "empty ones", empty(full()), empty(full()), true)
	checkSame(t, "something and empty ones", full(), empty(full()), false)
	checkSame(t, "something and nil ones", full(), bare(full()), false)
	for i := range reflect.TypeFor[api.Sess]().NumField() {
		mixed := bare(full())
		reflect.ValueOf(&mixed).Elem().Field(i).Set(reflect.ValueOf(empty(full())).Field(i))
		checkSame(t, reflect.TypeFor[api.Sess]().Field(i).Name, mixed, bare(full()), true)
	}
}

// TestSameDoesNotLookBehindLists: the room behind a list's length says nothing.
func TestSameDoesNotLookBehindLists(t *testing.T) {
	checkSame(t, "room behind one's lists", roomy(full()), full(), true)
	checkSame(t, "room behind both's lists", roomy(full()), roomy(full()), true)
	checkSame(t, "room behind empty lists", roomy(bare(full())), bare(full()), true)
	for _, x := range others(full()) {
		checkSame(t, x.path, roomy(full()), roomy(x.s), false)
		checkSame(t, x.path, x.s, roomy(x.s), true)
	}
}

func TestSameOfWhatCallsAnswer(t *testing.T) {
	for _, x := range begins {
		s := New(api.Script{Player: 1, Lines: []string{x.line, "own"}})
		o := Open(s)
		checkSame(t, x.line, o, Open(s), true)
		checkSame(t, x.line, s, o, false)
		checkSame(t, x.line, o, Close(o), false)
		checkSame(t, x.line, o, Anew(o), x.phase == 1)
		checkSame(t, x.line, Anew(o), Anew(Anew(o)), true)
		checkSame(t, x.line, Close(o), Close(s), true)
		checkSame(t, x.line, s, Close(s), false)
	}
}
