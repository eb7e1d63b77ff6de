package haze

import (
	"strconv"
	"strings"

	"haze/lots"
	"haze/spots"
)

// tellOwn tells the tick, and what the player has: its money, its units.
func (w *World) tellOwn(b *strings.Builder, number int) {
	p := &w.players[number]
	tell(b, "tick", strconv.Itoa(w.tick), "money", strconv.Itoa(p.money))
	for _, u := range p.units {
		tell(b, "unit", u.name, where(u.at), u.heading.Letter(), "cargo", strconv.Itoa(u.cargo))
	}
}

// tellNear tells what is at the spots that the player sees. It goes through the spots, not through the maps, for those have no order.
func (w *World) tellNear(b *strings.Builder, number int) {
	for y := range w.sides.Height {
		for x := range w.sides.Width {
			at := spots.At(x, y)
			if w.players[number].near(at, w.sight) {
				w.tellSpot(b, number, at)
			}
		}
	}
}

// tellSpot tells what is at a spot, but for the player's own unit.
func (w *World) tellSpot(b *strings.Builder, number int, at spots.Spot) {
	if amount := w.ore[at]; amount > 0 {
		tell(b, "ore", where(at), strconv.Itoa(amount))
	}
	if other, ok := w.stands[at]; ok && other != number {
		tell(b, "other", where(at), strconv.Itoa(other))
	}
}

// near tells whether the spot is far from some of the player's units by no more than sight.
func (p *player) near(at spots.Spot, sight int) bool {
	for _, u := range p.units {
		if spots.Far(u.at, at) <= sight {
			return true
		}
	}
	return false
}

// tellOpen tells the open lots, and of all bids for them only the player's own.
func (w *World) tellOpen(b *strings.Builder, number int) {
	for _, l := range w.open {
		words := []string{"lot", l.Name, "until", strconv.Itoa(l.Until), "least", strconv.Itoa(l.Least)}
		if bid := l.Bids[number]; bid > 0 {
			words = append(words, "bid", strconv.Itoa(bid))
		}
		tell(b, words...)
	}
}

// tellClosed tells what became of the lots that closed at the last Tick; the price is for the winner alone.
func (w *World) tellClosed(b *strings.Builder, number int) {
	for _, s := range w.closed {
		switch s.Winner {
		case number:
			tell(b, "won", s.Name, "for", strconv.Itoa(s.Price))
		case lots.Nobody:
			tell(b, "passed", s.Name)
		default:
			tell(b, "sold", s.Name)
		}
	}
}

func where(at spots.Spot) string { return strconv.Itoa(at.X()) + " " + strconv.Itoa(at.Y()) }

// tell adds a line of these words.
func tell(b *strings.Builder, words ...string) {
	b.WriteString(strings.Join(words, " "))
	b.WriteByte('\n')
}
