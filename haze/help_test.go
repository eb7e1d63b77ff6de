package haze

import (
	"fmt"
	"strings"
	"testing"

	"haze/api"
	"haze/spots"
)

const (
	most  = 1<<63 - 1
	least = -1 << 63
)

// field is THE FIELD of the document.
func field() api.Config {
	return api.Config{Width: 5, Height: 4, Sight: 1, Ore: []api.Spot{{X: 1, Amount: 3}}, Starts: []api.Spot{{}, {X: 4, Y: 3}}}
}

func begin(t *testing.T, c api.Config) *World {
	t.Helper()
	w, e := New(c)
	if e != api.OK || w == nil {
		t.Fatalf("New(%+v): %d", c, e)
	}
	return w
}

func order(t *testing.T, w *World, player int, want api.Errno, texts ...string) {
	t.Helper()
	for _, s := range texts {
		if e := w.Order(player, s); e != want {
			t.Errorf("Order(%d, %.40q) = %d, want %d", player, s, e, want)
		}
	}
}

func tick(t *testing.T, w *World) {
	t.Helper()
	if e := w.Tick(); e != api.OK {
		t.Fatalf("Tick = %d", e)
	}
}

// obey gives each order and lets it be carried out ahead of the next one.
func obey(t *testing.T, w *World, player int, texts ...string) {
	t.Helper()
	for _, s := range texts {
		order(t, w, player, api.OK, s)
		tick(t, w)
	}
}

func money(t *testing.T, w *World, player, want int) {
	t.Helper()
	if n, e := w.Money(player); n != want || e != api.OK {
		t.Errorf("Money(%d) = %d, %d, want %d", player, n, e, want)
	}
}

// units holds a player's units against lines of the form that a View has.
func units(t *testing.T, w *World, player int, want ...string) {
	t.Helper()
	var got []string
	for _, u := range w.players[player].units {
		got = append(got, fmt.Sprintf("%s %v %v %s cargo %d", u.name, real(u.at), imag(u.at), letter(u.heading), u.cargo))
	}
	if strings.Join(got, "\n") != strings.Join(want, "\n") {
		t.Errorf("the units of player %d: %q, want %q", player, got, want)
	}
}

// view holds what a player sees against these lines.
func view(t *testing.T, w *World, player int, want ...string) {
	t.Helper()
	text := strings.Join(want, "\n") + "\n"
	if s, e := w.View(player); s != text || e != api.OK {
		t.Errorf("View(%d) = %q, %d, want %q", player, s, e, text)
	}
}

func letter(h spots.Heading) string {
	switch h {
	case spots.East:
		return "e"
	case spots.North:
		return "n"
	case spots.West:
		return "w"
	case spots.South:
		return "s"
	}
	return fmt.Sprint("no heading: ", h)
}

// whole tells all that a world keeps.
func whole(w *World) string {
	var b strings.Builder
	fmt.Fprintf(&b, "%d %v %d %v %v\n", w.tick, w.sides, w.sight, w.ore, w.stands)
	for _, p := range w.players {
		fmt.Fprintln(&b, p.money)
		for _, u := range p.units {
			fmt.Fprintf(&b, "%+v\n", *u)
		}
	}
	fmt.Fprintf(&b, "%+v\n%+v\n", w.open, w.closed)
	return b.String()
}
