// Package haze: a small world in which each sees only what is near, and lots for which nobody sees the others' bids: see DOC.md.
package haze

import (
	"slices"
	"strings"

	"haze/api"
	"haze/lots"
	"haze/orders"
	"haze/spots"
)

// World is a world, its players, its lots.
type World struct {
	tick    int
	sides   spots.Sides
	sight   int                // how far a unit sees
	ore     map[spots.Spot]int // how much there is; no spot without any
	stands  map[spots.Spot]int // the number of the player whose unit stands there
	players []player
	open    []lots.Lot  // in the order of their names
	closed  []lots.Sale // at the last Tick, in the same order
}

// New makes a world (P3).
func New(c api.Config) (*World, api.Errno) {
	if !fits(c) {
		return nil, api.ErrArg
	}
	w := &World{
		sides:   spots.Sides{Width: c.Width, Height: c.Height},
		sight:   c.Sight,
		ore:     make(map[spots.Spot]int),
		stands:  make(map[spots.Spot]int),
		players: make([]player, len(c.Starts)),
	}
	for _, s := range c.Ore {
		w.ore[spots.At(s.X, s.Y)] = s.Amount
	}
	for number, s := range c.Starts {
		w.players[number].money = api.Start
		w.place(number, &unit{name: firstName, at: spots.At(s.X, s.Y), heading: spots.East})
	}
	return w, api.OK
}

// Order gives a unit an order, or bids for a lot (P4, P6).
func (w *World) Order(player int, text string) api.Errno {
	if !w.has(player) {
		return api.ErrArg
	}
	o, ok := orders.Parse(text)
	if !ok {
		return api.ErrText
	}
	if o.Kind == orders.Bid {
		return w.bid(player, o)
	}
	u := w.players[player].find(o.Unit)
	if u == nil {
		return api.ErrName
	}
	// A copy of the name, for the text is the caller's.
	u.told = orders.Order{Kind: o.Kind, Name: strings.Clone(o.Name)}
	return api.OK
}

// Offer opens a lot (P6).
func (w *World) Offer(name string, least int, ticks int) api.Errno {
	if !orders.IsName(name) {
		return api.ErrText
	}
	place, taken := w.seek(name)
	switch {
	case taken:
		return api.ErrTaken
	case !between(least, 0, api.MaxBid) || !between(ticks, 1, api.MaxTicks):
		return api.ErrArg
	case len(w.open) >= api.MaxLots:
		return api.ErrFull
	}
	// A copy of the name, for the one that came in is the caller's.
	l := lots.Lot{Name: strings.Clone(name), Until: w.tick + ticks, Least: least}
	w.open = slices.Insert(w.open, place, l)
	return api.OK
}

// Tick lets all units do what they were told, and closes lots (P5, P7).
func (w *World) Tick() api.Errno {
	if w.tick == api.MaxTicks {
		return api.ErrFull
	}
	for number := range w.players {
		// The list is that of before: what is built meanwhile has no order anyway.
		for _, u := range w.players[number].units {
			w.carryOut(number, u)
		}
	}
	w.tick++
	w.closeLots()
	return api.OK
}

// View tells what a player sees (P8).
func (w *World) View(player int) (string, api.Errno) {
	if !w.has(player) {
		return "", api.ErrArg
	}
	var b strings.Builder
	w.tellOwn(&b, player)
	w.tellNear(&b, player)
	w.tellOpen(&b, player)
	w.tellClosed(&b, player)
	return b.String(), api.OK
}

// Money tells what a player has (P8).
func (w *World) Money(player int) (int, api.Errno) {
	if !w.has(player) {
		return 0, api.ErrArg
	}
	return w.players[player].money, api.OK
}

// has tells whether there is a player of that number.
func (w *World) has(player int) bool { return 0 <= player && player < len(w.players) }
