package haze

import (
	"strings"
	"testing"

	"haze/api"
	"haze/spots"
)

// TestField is what the document tells of THE FIELD.
func TestField(t *testing.T) {
	w := begin(t, field())
	view(t, w, 0, "tick 0 money 100", "unit a 0 0 e cargo 0", "ore 1 0 3")
	view(t, w, 1, "tick 0 money 100", "unit a 4 3 e cargo 0")
	obey(t, w, 0, "a go")
	view(t, w, 0, "tick 1 money 100", "unit a 1 0 e cargo 0", "ore 1 0 3")
	obey(t, w, 0, "a dig")
	view(t, w, 0, "tick 2 money 100", "unit a 1 0 e cargo 1", "ore 1 0 2")
	obey(t, w, 0, "a sell")
	view(t, w, 0, "tick 3 money 110", "unit a 1 0 e cargo 0", "ore 1 0 2")
	obey(t, w, 0, "a left")
	view(t, w, 0, "tick 4 money 110", "unit a 1 0 n cargo 0", "ore 1 0 2")
	obey(t, w, 0, "a build β")
	money(t, w, 0, 60)
	view(t, w, 0, "tick 5 money 60", "unit a 1 0 n cargo 0", "unit β 1 1 n cargo 0", "ore 1 0 2")
	obey(t, w, 1, "a go")
	view(t, w, 1, "tick 6 money 100", "unit a 4 3 e cargo 0")
	order(t, w, 0, api.ErrText, "a dance", "a  go", "A go", "a build", "bid x 01")
	order(t, w, 0, api.ErrName, "b go", "bid x 5")
}

func TestP5Moves(t *testing.T) {
	for _, c := range []struct{ verbs, want string }{
		{"go", "a 1 0 e cargo 0"}, {"left", "a 0 0 n cargo 0"}, {"right", "a 0 0 s cargo 0"}, {"back", "a 0 0 w cargo 0"},
		{"left left", "a 0 0 w cargo 0"}, {"left left left", "a 0 0 s cargo 0"}, {"left left left left", "a 0 0 e cargo 0"},
		{"right right", "a 0 0 w cargo 0"}, {"right right right", "a 0 0 n cargo 0"}, {"left right", "a 0 0 e cargo 0"}, {"left back", "a 0 0 s cargo 0"},
		{"go go go go", "a 4 0 e cargo 0"}, {"go go go go go", "a 4 0 e cargo 0"}, {"back go", "a 0 0 w cargo 0"}, {"right go", "a 0 0 s cargo 0"},
		{"left go go go", "a 0 3 n cargo 0"}, {"left go go go go", "a 0 3 n cargo 0"}, {"go left go left go left go", "a 0 0 s cargo 0"},
		{"go go left go go right go right go", "a 3 1 s cargo 0"},
	} {
		w := begin(t, field())
		for _, v := range strings.Fields(c.verbs) {
			obey(t, w, 0, "a "+v)
		}
		units(t, w, 0, c.want)
	}
}

// Player 0 moves ahead of player 1, the older unit ahead of the younger.
func TestP5Turns(t *testing.T) {
	c := field()
	c.Starts = []api.Spot{{X: 1}, {X: 0}}
	w := begin(t, c)
	order(t, w, 1, api.OK, "a go")
	order(t, w, 0, api.OK, "a go")
	tick(t, w)
	units(t, w, 0, "a 2 0 e cargo 0")
	units(t, w, 1, "a 1 0 e cargo 0")

	c.Starts = []api.Spot{{X: 0}, {X: 1}}
	w = begin(t, c)
	order(t, w, 1, api.OK, "a go")
	order(t, w, 0, api.OK, "a go")
	tick(t, w)
	units(t, w, 0, "a 0 0 e cargo 0")
	units(t, w, 1, "a 2 0 e cargo 0")
	tick(t, w) // and nothing comes of that order later
	units(t, w, 0, "a 0 0 e cargo 0")

	w = begin(t, field())
	obey(t, w, 0, "a build b")
	order(t, w, 0, api.OK, "b go", "a go")
	tick(t, w)
	units(t, w, 0, "a 0 0 e cargo 0", "b 2 0 e cargo 0")

	// The order in which they came to be is that of neither names nor spots.
	w = begin(t, field())
	obey(t, w, 0, "a call z", "z build b", "z call y")
	order(t, w, 0, api.OK, "b go", "y go")
	tick(t, w)
	units(t, w, 0, "y 0 0 e cargo 0", "b 2 0 e cargo 0")
}

// What one gives up or gets, the next one finds so in the same Tick: names, spots, money.
func TestP5ByWhatIsThen(t *testing.T) {
	w := begin(t, field())
	obey(t, w, 0, "a build b")
	order(t, w, 0, api.OK, "a call c", "b call a")
	tick(t, w)
	units(t, w, 0, "c 0 0 e cargo 0", "a 1 0 e cargo 0")

	order(t, w, 0, api.OK, "a go", "c build d") // c comes first, when a stands there still
	tick(t, w)
	units(t, w, 0, "c 0 0 e cargo 0", "a 2 0 e cargo 0")
	money(t, w, 0, 50)

	// The older one sells, so that the younger one can build; not the other way round.
	w = begin(t, field())
	obey(t, w, 0, "a build b", "b go", "a go", "a dig")
	w.players[0].money = api.Cost - api.Price
	order(t, w, 0, api.OK, "b build c", "a sell")
	tick(t, w)
	units(t, w, 0, "a 1 0 e cargo 0", "b 2 0 e cargo 0", "c 3 0 e cargo 0")
	money(t, w, 0, 0)

	w = begin(t, field())
	obey(t, w, 0, "a build b", "b dig", "a left")
	w.players[0].money = api.Cost - api.Price
	order(t, w, 0, api.OK, "b sell", "a build c")
	tick(t, w)
	units(t, w, 0, "a 0 0 n cargo 0", "b 1 0 e cargo 0")
	money(t, w, 0, api.Cost)
}

// A unit that is built while older ones still have orders does nothing in that Tick.
func TestP5NewUnits(t *testing.T) {
	w := begin(t, field())
	order(t, w, 0, api.OK, "a build b")
	order(t, w, 0, api.ErrName, "b go")
	tick(t, w)
	tick(t, w)
	units(t, w, 0, "a 0 0 e cargo 0", "b 1 0 e cargo 0")
	obey(t, w, 0, "b go")
	units(t, w, 0, "a 0 0 e cargo 0", "b 2 0 e cargo 0")
}

// An order is gone behind the Tick, whether or not something came of it.
func TestP5Once(t *testing.T) {
	w := begin(t, field())
	obey(t, w, 0, "a left")
	tick(t, w)
	units(t, w, 0, "a 0 0 n cargo 0")
	obey(t, w, 0, "a back", "a go") // the world's edge
	units(t, w, 0, "a 0 0 s cargo 0")
	obey(t, w, 0, "a back")
	tick(t, w)
	units(t, w, 0, "a 0 0 n cargo 0")

	w = begin(t, field())
	obey(t, w, 0, "a dig", "a build a", "a call a")
	tick(t, w)
	units(t, w, 0, "a 0 0 e cargo 0")
	obey(t, w, 0, "a go")
	tick(t, w)
	units(t, w, 0, "a 1 0 e cargo 0")
}

func TestP5GoOnlyWhereNobodyStands(t *testing.T) {
	c := field()
	c.Starts = []api.Spot{{X: 1, Y: 1}, {X: 2, Y: 1}}
	w := begin(t, c)
	obey(t, w, 0, "a go") // another player's
	units(t, w, 0, "a 1 1 e cargo 0")
	obey(t, w, 0, "a left", "a build b", "a go") // its own
	units(t, w, 0, "a 1 1 n cargo 0", "b 1 2 n cargo 0")
	obey(t, w, 0, "b go", "a go") // it is free again
	units(t, w, 0, "a 1 2 n cargo 0", "b 1 3 n cargo 0")
	obey(t, w, 1, "a back", "a go")
	units(t, w, 1, "a 1 1 w cargo 0")
}

func TestP5Dig(t *testing.T) {
	w := begin(t, field())
	obey(t, w, 0, "a dig") // no ore here
	units(t, w, 0, "a 0 0 e cargo 0")
	obey(t, w, 0, "a go", "a dig", "a dig", "a dig")
	units(t, w, 0, "a 1 0 e cargo 3")
	if len(w.ore) != 0 {
		t.Errorf("ore: %v", w.ore)
	}
	obey(t, w, 0, "a dig") // none left
	units(t, w, 0, "a 1 0 e cargo 3")
	obey(t, w, 0, "a go", "a sell", "a sell")
	units(t, w, 0, "a 2 0 e cargo 0")
	money(t, w, 0, 130)
	money(t, w, 1, 100)
}

func TestP5Cargo(t *testing.T) {
	c := field()
	c.Ore = []api.Spot{{Amount: 99}}
	w := begin(t, c)
	for range 9 {
		obey(t, w, 0, "a dig")
	}
	units(t, w, 0, "a 0 0 e cargo 9")
	obey(t, w, 0, "a dig")
	units(t, w, 0, "a 0 0 e cargo 9")
	if n := w.ore[spots.At(0, 0)]; n != 90 {
		t.Errorf("ore that is left: %d", n)
	}
	obey(t, w, 0, "a sell", "a dig")
	units(t, w, 0, "a 0 0 e cargo 1")
	money(t, w, 0, 190)
}

// Two units at one spot's ore, one after the other.
func TestP5LastOre(t *testing.T) {
	c := field()
	c.Ore[0].Amount = 1
	w := begin(t, c)
	obey(t, w, 0, "a build b", "b dig", "b go", "a go", "a dig")
	units(t, w, 0, "a 1 0 e cargo 0", "b 2 0 e cargo 1")
}

func TestP5Build(t *testing.T) {
	w := begin(t, field())
	obey(t, w, 0, "a build a") // the name is in use
	units(t, w, 0, "a 0 0 e cargo 0")
	money(t, w, 0, 100)
	obey(t, w, 0, "a right", "a build b") // the world's edge
	units(t, w, 0, "a 0 0 s cargo 0")
	money(t, w, 0, 100)
	obey(t, w, 0, "a back", "a build b")
	units(t, w, 0, "a 0 0 n cargo 0", "b 0 1 n cargo 0")
	money(t, w, 0, 50)
	obey(t, w, 0, "a build c") // b stands there
	money(t, w, 0, 50)
	obey(t, w, 0, "b build a") // in use by another of its units
	money(t, w, 0, 50)
	obey(t, w, 0, "b build c") // the last money
	units(t, w, 0, "a 0 0 n cargo 0", "b 0 1 n cargo 0", "c 0 2 n cargo 0")
	money(t, w, 0, 0)
	obey(t, w, 0, "c build d")
	units(t, w, 0, "a 0 0 n cargo 0", "b 0 1 n cargo 0", "c 0 2 n cargo 0")
	money(t, w, 0, 0)
	money(t, w, 1, 100)
}

// One below Cost is too little, and another player's unit is in the way too.
func TestP5BuildRefused(t *testing.T) {
	w := begin(t, field())
	w.players[0].money = api.Cost - 1
	obey(t, w, 0, "a build b")
	units(t, w, 0, "a 0 0 e cargo 0")
	money(t, w, 0, api.Cost-1)

	c := field()
	c.Starts[1] = api.Spot{X: 1}
	w = begin(t, c)
	obey(t, w, 0, "a build b")
	units(t, w, 0, "a 0 0 e cargo 0")
	money(t, w, 0, 100)
}

// What the builder carries stays with it.
func TestP5BuildWithoutCargo(t *testing.T) {
	c := field()
	c.Ore[0] = api.Spot{Amount: 2}
	w := begin(t, c)
	obey(t, w, 0, "a dig", "a build b")
	units(t, w, 0, "a 0 0 e cargo 1", "b 1 0 e cargo 0")
}

// The other player's units may have the same names.
func TestP5SameNames(t *testing.T) {
	w := begin(t, field())
	obey(t, w, 0, "a build b")
	obey(t, w, 1, "a back", "a build b")
	units(t, w, 0, "a 0 0 e cargo 0", "b 1 0 e cargo 0")
	units(t, w, 1, "a 4 3 w cargo 0", "b 3 3 w cargo 0")
	obey(t, w, 1, "b call c")
	obey(t, w, 0, "b call c")
	units(t, w, 0, "a 0 0 e cargo 0", "c 1 0 e cargo 0")
	units(t, w, 1, "a 4 3 w cargo 0", "c 3 3 w cargo 0")
}

// A player has five units and no more; that of the others does not matter.
func TestP5MaxUnits(t *testing.T) {
	c := api.Config{Width: 10, Height: 3, Sight: 1, Starts: []api.Spot{{}, {Y: 2}}}
	w := begin(t, c)
	w.players[0].money = 1000
	obey(t, w, 0, "a build b", "b build c", "c build d", "d build e")
	money(t, w, 0, 800)
	obey(t, w, 0, "e build f")
	money(t, w, 0, 800)
	units(t, w, 0, "a 0 0 e cargo 0", "b 1 0 e cargo 0", "c 2 0 e cargo 0", "d 3 0 e cargo 0", "e 4 0 e cargo 0")
	order(t, w, 0, api.ErrName, "f go")
	obey(t, w, 1, "a build b")
	money(t, w, 1, 50)
}

func TestP5Call(t *testing.T) {
	w := begin(t, field())
	obey(t, w, 0, "a call a")
	units(t, w, 0, "a 0 0 e cargo 0")
	obey(t, w, 0, "a build b", "b call a")
	units(t, w, 0, "a 0 0 e cargo 0", "b 1 0 e cargo 0")
	obey(t, w, 0, "a call ω")
	units(t, w, 0, "ω 0 0 e cargo 0", "b 1 0 e cargo 0")
	order(t, w, 0, api.ErrName, "a go")
	obey(t, w, 0, "b call a")
	units(t, w, 0, "ω 0 0 e cargo 0", "a 1 0 e cargo 0")
	money(t, w, 0, 50)
}

func TestP5Last(t *testing.T) {
	w := begin(t, field())
	for range 1000 {
		tick(t, w)
	}
	if w.tick != 1000 {
		t.Errorf("the tick is %d", w.tick)
	}
	order(t, w, 0, api.OK, "a go")
	before := whole(w)
	for range 3 {
		if e := w.Tick(); e != api.ErrFull {
			t.Errorf("Tick behind the last one = %d", e)
		}
	}
	if whole(w) != before {
		t.Error("a Tick that was refused changed the world")
	}
	order(t, w, 0, api.ErrText, "a dance")
	order(t, w, 0, api.ErrName, "b go")
	order(t, w, 2, api.ErrArg, "a go")
	money(t, w, 0, 100)
}

func TestP8Money(t *testing.T) {
	c := field()
	c.Starts = append(c.Starts, api.Spot{X: 2, Y: 2})
	w := begin(t, c)
	obey(t, w, 0, "a go", "a dig", "a sell")
	obey(t, w, 2, "a build b")
	before := whole(w)
	money(t, w, 0, 110)
	money(t, w, 1, 100)
	money(t, w, 2, 50)
	for _, p := range []int{-1, 3, 4, most, least} {
		if n, e := w.Money(p); n != 0 || e != api.ErrArg {
			t.Errorf("Money(%d) = %d, %d", p, n, e)
		}
	}
	if whole(w) != before {
		t.Error("to ask for money changed the world")
	}
}
