package haze

import (
	"fmt"
	"strings"
	"testing"

	"haze/api"
)

func TestP8NoPlayer(t *testing.T) {
	for _, players := range []int{2, 3, 4} {
		w := begin(t, api.Config{Width: 5, Height: 5, Sight: 4, Starts: row(players), Ore: row(6)})
		before := whole(w)
		for _, p := range []int{-1, players, players + 1, most, least} {
			if s, e := w.View(p); s != "" || e != api.ErrArg {
				t.Errorf("of %d players: View(%d) = %q, %d", players, p, s, e)
			}
		}
		if whole(w) != before {
			t.Error("to look changed the world")
		}
	}
}

// Ore, and another player's unit upon it, at every spot but that of a unit in the middle of the greatest world.
func TestP8Sight(t *testing.T) {
	for sight := 1; sight <= api.MaxSight; sight++ {
		for y := range 10 {
			for x := range 10 {
				if x == 5 && y == 4 {
					continue
				}
				near := max(x-5, 5-x) <= sight && max(y-4, 4-y) <= sight
				c := api.Config{Width: 10, Height: 10, Sight: sight, Starts: []api.Spot{{X: 5, Y: 4}, {X: x, Y: y}}, Ore: []api.Spot{{X: x, Y: y, Amount: 42}}}
				want := []string{"tick 0 money 100", "unit a 5 4 e cargo 0"}
				if near {
					want = append(want, fmt.Sprintf("ore %d %d 42", x, y), fmt.Sprintf("other %d %d 1", x, y))
				}
				view(t, begin(t, c), 0, want...)
			}
		}
	}
}

// Sight ends at the world's edge: it neither goes around it nor fails there.
func TestP8WorldsEdge(t *testing.T) {
	corners := []api.Spot{{Amount: 1}, {X: 3, Amount: 2}, {Y: 2, Amount: 3}, {X: 3, Y: 2, Amount: 4}}
	for number, line := range []string{"ore 0 0 1", "ore 3 0 2", "ore 0 2 3", "ore 3 2 4"} {
		w := begin(t, api.Config{Width: 4, Height: 3, Sight: 1, Starts: corners, Ore: corners})
		at := strings.Join(strings.Fields(line)[1:3], " ")
		view(t, w, number, "tick 0 money 100", "unit a "+at+" e cargo 0", line)
	}
	w := begin(t, api.Config{Width: 3, Height: 3, Sight: 4, Starts: []api.Spot{{}, {X: 2, Y: 2}}, Ore: []api.Spot{{Y: 2, Amount: 99}}})
	view(t, w, 0, "tick 0 money 100", "unit a 0 0 e cargo 0", "ore 0 2 99", "other 2 2 1")
	view(t, w, 1, "tick 0 money 100", "unit a 2 2 e cargo 0", "other 0 0 0", "ore 0 2 99")
}

// By y, then by x; ore ahead of the other at the same spot; whatever the order in which they were given.
func TestP8Order(t *testing.T) {
	c := api.Config{Width: 10, Height: 10, Sight: 2,
		Starts: []api.Spot{{X: 3, Y: 2}, {X: 3, Y: 3}, {X: 5, Y: 0}, {X: 1, Y: 1}},
		Ore:    []api.Spot{{X: 5, Y: 4, Amount: 10}, {X: 2, Y: 4, Amount: 9}, {X: 3, Y: 3, Amount: 8}, {X: 3, Y: 2, Amount: 20}, {X: 4, Y: 0, Amount: 7}, {X: 1, Y: 1, Amount: 11}}}
	for range 20 { // the order of a map is another one each time
		w := begin(t, c)
		view(t, w, 0, "tick 0 money 100", "unit a 3 2 e cargo 0",
			"ore 4 0 7", "other 5 0 2", "ore 1 1 11", "other 1 1 3", "ore 3 2 20", "ore 3 3 8", "other 3 3 1", "ore 2 4 9", "ore 5 4 10")
		view(t, w, 2, "tick 0 money 100", "unit a 5 0 e cargo 0", "ore 4 0 7", "ore 3 2 20", "other 3 2 0")
	}
}

// What several units see is told once; its own units are no others; what but one of them sees is told too.
func TestP8SeveralUnits(t *testing.T) {
	c := api.Config{Width: 10, Height: 3, Sight: 1, Starts: []api.Spot{{X: 2, Y: 1}, {X: 3, Y: 2}}, Ore: []api.Spot{{X: 3, Amount: 5}, {X: 1, Amount: 6}, {X: 5, Amount: 7}, {X: 2, Y: 1, Amount: 8}}}
	w := begin(t, c)
	obey(t, w, 0, "a build z")
	view(t, w, 0, "tick 1 money 50", "unit a 2 1 e cargo 0", "unit z 3 1 e cargo 0", "ore 1 0 6", "ore 3 0 5", "ore 2 1 8", "other 3 2 1")
	view(t, w, 1, "tick 1 money 100", "unit a 3 2 e cargo 0", "ore 2 1 8", "other 2 1 0", "other 3 1 0")
	obey(t, w, 0, "z go", "z go")
	view(t, w, 0, "tick 3 money 50", "unit a 2 1 e cargo 0", "unit z 5 1 e cargo 0", "ore 1 0 6", "ore 3 0 5", "ore 5 0 7", "ore 2 1 8", "other 3 2 1")
	view(t, w, 1, "tick 3 money 100", "unit a 3 2 e cargo 0", "ore 2 1 8", "other 2 1 0")
}

// Units are told in the order in which they came to be, which is that of neither names nor spots.
func TestP8Units(t *testing.T) {
	c := field()
	c.Ore[0] = api.Spot{X: 3, Y: 1, Amount: 99}
	c.Starts[0] = api.Spot{X: 3, Y: 1}
	w := begin(t, c)
	obey(t, w, 0, "a call ω", "ω back", "ω build z", "ω left", "ω build abcdef", "ω dig")
	view(t, w, 0, "tick 6 money 0", "unit ω 3 1 s cargo 1", "unit z 2 1 w cargo 0", "unit abcdef 3 0 s cargo 0", "ore 3 1 98")
	obey(t, w, 0, "ω call αβγδεζ", "z right")
	view(t, w, 0, "tick 8 money 0", "unit αβγδεζ 3 1 s cargo 1", "unit z 2 1 n cargo 0", "unit abcdef 3 0 s cargo 0", "ore 3 1 98")
}

func TestP8Headings(t *testing.T) {
	w := begin(t, field())
	for i, h := range strings.Fields("n w s e n w s e") {
		obey(t, w, 1, "a left")
		view(t, w, 1, fmt.Sprintf("tick %d money 100", i+1), "unit a 4 3 "+h+" cargo 0")
	}
}

// Ore that is dug out is not told any more; that of which some is left is.
func TestP8Ore(t *testing.T) {
	c := field()
	c.Ore[0] = api.Spot{Amount: 11}
	w := begin(t, c)
	for n := 1; n <= 9; n++ {
		obey(t, w, 0, "a dig")
		view(t, w, 0, fmt.Sprintf("tick %d money 100", n), fmt.Sprintf("unit a 0 0 e cargo %d", n), fmt.Sprintf("ore 0 0 %d", 11-n))
	}
	obey(t, w, 0, "a sell", "a dig")
	view(t, w, 0, "tick 11 money 190", "unit a 0 0 e cargo 1", "ore 0 0 1")
	obey(t, w, 0, "a dig")
	view(t, w, 0, "tick 12 money 190", "unit a 0 0 e cargo 2")
}

// An order that still waits is seen by nobody.
func TestP8OrdersUnseen(t *testing.T) {
	c := field()
	c.Starts[1] = api.Spot{X: 1, Y: 1}
	w := begin(t, c)
	order(t, w, 0, api.OK, "a go")
	order(t, w, 1, api.OK, "a build b")
	view(t, w, 0, "tick 0 money 100", "unit a 0 0 e cargo 0", "ore 1 0 3", "other 1 1 1")
	view(t, w, 1, "tick 0 money 100", "unit a 1 1 e cargo 0", "other 0 0 0", "ore 1 0 3")
	tick(t, w)
	view(t, w, 0, "tick 1 money 100", "unit a 1 0 e cargo 0", "ore 1 0 3", "other 1 1 1", "other 2 1 1")
	view(t, w, 1, "tick 1 money 50", "unit a 1 1 e cargo 0", "unit b 2 1 e cargo 0", "ore 1 0 3", "other 1 0 0")
}

func TestP8LastTick(t *testing.T) {
	w := begin(t, field())
	for range api.MaxTicks {
		tick(t, w)
	}
	w.Tick()
	view(t, w, 0, "tick 1000 money 100", "unit a 0 0 e cargo 0", "ore 1 0 3")
}

// What was told once stays as it was told.
func TestP2ViewKept(t *testing.T) {
	w := begin(t, field())
	first, _ := w.View(0)
	copied := strings.Clone(first)
	obey(t, w, 0, "a go", "a dig", "a call bcd")
	w.View(0)
	if first != copied {
		t.Errorf("a View of before is %q now, it was %q", first, copied)
	}
}

// What is far is not seen, neither that it is there nor what comes of it.
func TestP9FarUnseen(t *testing.T) {
	c := api.Config{Width: 10, Height: 10, Sight: 2, Starts: []api.Spot{{}, {X: 9, Y: 9}, {X: 3, Y: 3}}, Ore: []api.Spot{{X: 3, Amount: 5}, {X: 2, Amount: 6}}}
	w := begin(t, c)
	c.Starts[1], c.Starts[2] = api.Spot{Y: 9}, api.Spot{X: 4, Y: 4}
	c.Ore[0] = api.Spot{X: 9, Y: 9, Amount: 77}
	other := begin(t, c)
	for _, s := range []string{"a left", "a dig", "a build b"} {
		want, _ := w.View(0)
		view(t, other, 0, strings.Split(strings.TrimSuffix(want, "\n"), "\n")...)
		order(t, w, 1, api.OK, "a dig")
		order(t, other, 1, api.OK, s)
		tick(t, w)
		tick(t, other)
	}
}
