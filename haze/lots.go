package haze

import (
	"slices"
	"strings"

	"haze/api"
	"haze/lots"
	"haze/orders"
)

// seek tells where in the list the open lot of that name is, or, with false, where it would be.
func (w *World) seek(name string) (int, bool) {
	return slices.BinarySearchFunc(w.open, name, func(l lots.Lot, name string) int {
		return strings.Compare(l.Name, name)
	})
}

// bid makes the number of the order the player's bid for a lot, if the player could pay all that it bids.
func (w *World) bid(number int, o orders.Order) api.Errno {
	place, ok := w.seek(o.Name)
	if !ok {
		return api.ErrName
	}
	l := &w.open[place]
	others := w.staked(number) - l.Bids[number]
	if o.Number+others > w.players[number].money {
		return api.ErrPoor
	}
	l.Bids[number] = o.Number
	return api.OK
}

// staked is all that a player has bid for open lots.
func (w *World) staked(number int) int {
	sum := 0
	for i := range w.open {
		sum += w.open[i].Bids[number]
	}
	return sum
}

// closeLots closes the lots whose time has come, and forgets those that closed before.
func (w *World) closeLots() {
	w.closed = nil
	var open []lots.Lot
	for i := range w.open {
		l := &w.open[i]
		if l.Until > w.tick {
			open = append(open, *l)
			continue
		}
		s := l.Close()
		if s.Winner != lots.Nobody {
			w.players[s.Winner].money -= s.Price
		}
		w.closed = append(w.closed, s)
	}
	w.open = open
}
