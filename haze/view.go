package haze

import (
	"strconv"
	"strings"

	"haze/spots"
)

// tellOwn tells the tick, and what the player has: its money, its units.
func (w *World) tellOwn(b *strings.Builder, number int) {
	p := &w.players[number]
	tell(b, "tick", strconv.Itoa(w.tick), "money", strconv.Itoa(p.money))
	for _, u := range p.units {
		tell(b, "unit", u.name, where(u.at), u.heading.Letter(), "cargo", strconv.Itoa(u.cargo))
	}
}

// tellNear tells what is at the spots that the player sees. It goes through the spots, not through the maps, for those have no order.
func (w *World) tellNear(b *strings.Builder, number int) {
	for y := range w.sides.Height {
		for x := range w.sides.Width {
			at := spots.At(x, y)
			if w.players[number].near(at, w.sight) {
				w.tellSpot(b, number, at)
			}
		}
	}
}

// tellSpot tells what is at a spot, but for the player's own unit.
func (w *World) tellSpot(b *strings.Builder, number int, at spots.Spot) {
	if amount := w.ore[at]; amount > 0 {
		tell(b, "ore", where(at), strconv.Itoa(amount))
	}
	if other, ok := w.stands[at]; ok && other != number {
		tell(b, "other", where(at), strconv.Itoa(other))
	}
}

// near tells whether the spot is far from some of the player's units by no more than sight.
func (p *player) near(at spots.Spot, sight int) bool {
	for _, u := range p.units {
		if spots.Far(u.at, at) <= sight {
			return true
		}
	}
	return false
}

func where(at spots.Spot) string { return strconv.Itoa(at.X()) + " " + strconv.Itoa(at.Y()) }

// tell adds a line of these words.
func tell(b *strings.Builder, words ...string) {
	b.WriteString(strings.Join(words, " "))
	b.WriteByte('\n')
}
