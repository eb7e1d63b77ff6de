package haze

import (
	"haze/api"
	"haze/orders"
	"haze/spots"
)

// firstName is what each player's first unit is called.
const firstName = "a"

type unit struct {
	name    string
	at      spots.Spot
	heading spots.Heading
	cargo   int
	told    orders.Order
}

type player struct {
	money int
	units []*unit // in the order in which they came to be
}

// find gives the player's unit of that name, or nil.
func (p *player) find(name string) *unit {
	for _, u := range p.units {
		if u.name == name {
			return u
		}
	}
	return nil
}

// place puts a new unit of the player into the world.
func (w *World) place(number int, u *unit) {
	w.players[number].units = append(w.players[number].units, u)
	w.stands[u.at] = number
}

// carryOut lets a unit do what it was told, if that can be done now.
func (w *World) carryOut(number int, u *unit) {
	o := u.told
	u.told = orders.Order{}
	p := &w.players[number]
	switch o.Kind {
	case orders.Go:
		w.move(number, u)
	case orders.Left:
		u.heading = u.heading.Left()
	case orders.Right:
		u.heading = u.heading.Right()
	case orders.Back:
		u.heading = u.heading.Back()
	case orders.Dig:
		w.dig(u)
	case orders.Sell:
		p.money += api.Price * u.cargo
		u.cargo = 0
	case orders.Build:
		w.build(number, u, o.Name)
	case orders.Call:
		if p.find(o.Name) == nil {
			u.name = o.Name
		}
	}
}

// freeAhead gives the spot ahead of a unit, and false if there is none or a unit stands on it.
func (w *World) freeAhead(u *unit) (spots.Spot, bool) {
	next, ok := w.sides.Ahead(u.at, u.heading)
	if !ok {
		return 0, false
	}
	if _, taken := w.stands[next]; taken {
		return 0, false
	}
	return next, true
}

func (w *World) move(number int, u *unit) {
	next, ok := w.freeAhead(u)
	if !ok {
		return
	}
	delete(w.stands, u.at)
	w.stands[next] = number
	u.at = next
}

func (w *World) dig(u *unit) {
	if w.ore[u.at] == 0 || u.cargo >= api.MaxCargo {
		return
	}
	u.cargo++
	w.ore[u.at]--
	if w.ore[u.at] == 0 {
		delete(w.ore, u.at)
	}
}

func (w *World) build(number int, u *unit, name string) {
	p := &w.players[number]
	if p.find(name) != nil || len(p.units) >= api.MaxUnits || p.money-w.staked(number) < api.Cost {
		return
	}
	next, ok := w.freeAhead(u)
	if !ok {
		return
	}
	p.money -= api.Cost
	w.place(number, &unit{name: name, at: next, heading: u.heading})
}
