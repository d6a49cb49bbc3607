package atom

import (
	"slices"

	"innkeep/api"
	"innkeep/cmd"
	"innkeep/desc"
)

// maxCoins is as many coins as one may have.
const maxCoins = 1 << 30

func inRoom(id int) api.Place   { return api.Place{Kind: 0, Id: id} }
func inPlayer(id int) api.Place { return api.Place{Kind: 1, Id: id} }
func inBox(id int) api.Place    { return api.Place{Kind: 2, Id: id} }

// model is the world behind a command, and its answer, by the chapters' words: it asks nothing of the layers that do commands.
func model(w api.World, p int, c api.Cmd) (api.World, api.Reply) {
	if !cmd.May(c) {
		return w, failed(api.ErrForm)
	}
	here := w.At[p]
	switch c.Kind {
	case api.Look:
		return w, api.Reply{Kind: 9, Room: here, Players: modelPresent(w, here), Items: modelSeen(w, inRoom(here))}
	case api.Own:
		return w, api.Reply{Kind: 10, Coins: w.Coins[p], Items: modelSeen(w, inPlayer(p))}
	}
	if err := modelError(w, p, c); err != api.OK {
		return w, failed(err)
	}
	next := modelNext(w, p, c)
	switch c.Kind {
	case api.Move:
		return next, api.Reply{Kind: 1, Room: next.At[p]}
	case api.Push:
		return next, api.Reply{Kind: 2, Room: next.At[c.Who]}
	}
	return next, api.Reply{Kind: c.Kind}
}

// modelNext is the world behind a command by which nothing is wrong; in what is too deep, full, poor or rich it makes a world that isn't right.
func modelNext(w api.World, p int, c api.Cmd) api.World {
	next := desc.Copy(w)
	switch c.Kind {
	case api.Move:
		next.At[p] = w.Desc.Exits[w.At[p]][c.Dir]
	case api.Push:
		next.At[c.Who] = w.Desc.Exits[w.At[c.Who]][c.Dir]
	case api.Get, api.Take:
		next.Where[c.Item] = inPlayer(p)
	case api.Drop:
		next.Where[c.Item] = inRoom(w.At[p])
	case api.Put:
		next.Where[c.Item] = inBox(c.Box)
	case api.Give:
		next.Where[c.Item] = inPlayer(c.Who)
	case api.Trade:
		for _, item := range c.Gives {
			next.Where[item] = inPlayer(c.Who)
		}
		for _, item := range c.Wants {
			next.Where[item] = inPlayer(p)
		}
		next.Coins[p] += c.Fee - c.Pay
		next.Coins[c.Who] += c.Pay - c.Fee
	}
	return next
}

func modelError(w api.World, p int, c api.Cmd) api.Errno {
	switch c.Kind {
	case api.Move:
		return modelExit(w, p, c.Dir)
	case api.Push:
		return modelPush(w, p, c)
	case api.Get:
		return modelShift(w, p, c, inRoom(w.At[p]))
	case api.Drop:
		return modelShift(w, p, c, inPlayer(p))
	case api.Put:
		return modelPut(w, p, c)
	case api.Take:
		return modelTake(w, p, c)
	case api.Give:
		return modelGive(w, p, c)
	}
	return modelTrade(w, p, c)
}

func modelExit(w api.World, p, dir int) api.Errno {
	if w.Desc.Exits[w.At[p]][dir] == -1 {
		return api.ErrExit
	}
	return api.OK
}

func modelPush(w api.World, p int, c api.Cmd) api.Errno {
	switch {
	case c.Who >= len(w.At):
		return api.ErrNone
	case c.Who == p:
		return api.ErrSelf
	case w.At[c.Who] != w.At[p]:
		return api.ErrAway
	}
	return modelExit(w, p, c.Dir)
}

func modelShift(w api.World, p int, c api.Cmd, from api.Place) api.Errno {
	switch {
	case c.Item >= len(w.Where):
		return api.ErrNone
	case w.Where[c.Item] != from:
		return api.ErrAway
	}
	return modelFull(modelNext(w, p, c))
}

func modelPut(w api.World, p int, c api.Cmd) api.Errno {
	switch {
	case max(c.Item, c.Box) >= len(w.Where):
		return api.ErrNone
	case w.Where[c.Item] != inPlayer(p), !modelNear(w, p, c.Box):
		return api.ErrAway
	case !w.Desc.Boxes[c.Box]:
		return api.ErrBox
	case slices.Contains(modelAbove(w, c.Box), c.Item):
		return api.ErrLoop
	}
	next := modelNext(w, p, c)
	for item := range next.Where {
		if len(modelAbove(next, item)) > 5 { // itself, and four boxes
			return api.ErrDeep
		}
	}
	return modelFull(next)
}

func modelTake(w api.World, p int, c api.Cmd) api.Errno {
	switch {
	case max(c.Item, c.Box) >= len(w.Where):
		return api.ErrNone
	case !modelNear(w, p, c.Box):
		return api.ErrAway
	case !w.Desc.Boxes[c.Box]:
		return api.ErrBox
	case w.Where[c.Item] != inBox(c.Box):
		return api.ErrAway
	}
	return modelFull(modelNext(w, p, c))
}

func modelGive(w api.World, p int, c api.Cmd) api.Errno {
	switch {
	case c.Item >= len(w.Where), c.Who >= len(w.At):
		return api.ErrNone
	case c.Who == p:
		return api.ErrSelf
	case w.At[c.Who] != w.At[p], w.Where[c.Item] != inPlayer(p):
		return api.ErrAway
	}
	return modelFull(modelNext(w, p, c))
}

func modelTrade(w api.World, p int, c api.Cmd) api.Errno {
	isMine := func(item int) bool { return w.Where[item] == inPlayer(p) }
	isOthers := func(item int) bool { return w.Where[item] == inPlayer(c.Who) }
	both := slices.Concat(c.Gives, c.Wants)
	switch {
	case c.Who >= len(w.At), len(both) > 0 && slices.Max(both) >= len(w.Where):
		return api.ErrNone
	case c.Who == p:
		return api.ErrSelf
	case w.At[c.Who] != w.At[p]:
		return api.ErrAway
	case len(slices.Compact(slices.Sorted(slices.Values(both)))) < len(both):
		return api.ErrTwice
	case !areAll(c.Gives, isMine), !areAll(c.Wants, isOthers):
		return api.ErrAway
	}
	next := modelNext(w, p, c)
	switch {
	case modelFull(next) != api.OK:
		return api.ErrFull
	case w.Coins[p] < c.Pay, w.Coins[c.Who] < c.Fee:
		return api.ErrPoor
	case max(next.Coins[p], next.Coins[c.Who]) > maxCoins:
		return api.ErrRich
	}
	return api.OK
}

func areAll(list []int, is func(int) bool) bool {
	return !slices.ContainsFunc(list, func(n int) bool { return !is(n) })
}

// modelFull tells whether something has more than it may.
func modelFull(w api.World) api.Errno {
	most := map[int]int{0: w.Desc.Room, 1: w.Desc.Player, 2: w.Desc.Box}
	has := map[api.Place]int{}
	for _, at := range w.Where {
		has[at]++
		if has[at] > most[at.Kind] {
			return api.ErrFull
		}
	}
	return api.OK
}

// modelAbove are the item and the boxes above it.
func modelAbove(w api.World, item int) []int {
	at := w.Where[item]
	if at.Kind != 2 {
		return []int{item}
	}
	return append(modelAbove(w, at.Id), item)
}

func modelRoot(w api.World, item int) api.Place {
	return w.Where[modelAbove(w, item)[0]]
}

func modelNear(w api.World, p, item int) bool {
	root := modelRoot(w, item)
	return root == inPlayer(p) || root == inRoom(w.At[p])
}

func modelPresent(w api.World, room int) []int {
	var players []int
	for p, at := range w.At {
		if at == room {
			players = append(players, p)
		}
	}
	return players
}

func modelSeen(w api.World, root api.Place) []api.Seen {
	var items []api.Seen
	for item, at := range w.Where {
		if modelRoot(w, item) == root {
			items = append(items, api.Seen{Item: item, At: at})
		}
	}
	return items
}
