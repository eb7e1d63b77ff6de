package haze

import (
	"cmp"
	"fmt"
	"slices"
	"strconv"
	"strings"
	"testing"

	"haze/api"
	"haze/spots"
)

// dice gives numbers that look as if by chance, and are the same in every run.
type dice uint64

func (d *dice) roll(n int) int {
	*d = *d*6364136223846793005 + 1442695040888963407
	return int(uint64(*d)>>33) % n
}

func (d *dice) pick(list []string) string { return list[d.roll(len(list))] }

func (d *dice) config() api.Config {
	c := api.Config{Width: 3 + d.roll(8), Height: 3 + d.roll(8), Sight: 1 + d.roll(4)}
	for range 2 + d.roll(3) {
		c.Starts = append(c.Starts, api.Spot{X: d.roll(c.Width), Y: d.roll(c.Height)})
	}
	for range d.roll(7) {
		c.Ore = append(c.Ore, api.Spot{X: d.roll(c.Width), Y: d.roll(c.Height), Amount: 1 + d.roll(99)})
	}
	return c
}

func (d *dice) text() string {
	name := []string{"a", "a", "a", "b", "b", "c", "β", "bid"}
	verb := []string{"go", "go", "left", "right", "back", "dig", "dig", "sell", "dance", "dig x"}
	last := []string{"a", "b", "c", "d", "e", "β", "bid", "5", "01", "", "a b"}
	if d.roll(3) > 0 {
		return d.pick(name) + " " + d.pick(verb)
	}
	return d.pick(name) + " " + d.pick([]string{"build", "build", "call", "x"}) + " " + d.pick(last)
}

// sums is what all players have: ore in the ground and in cargoes, money, units.
type sums struct{ ground, cargo, money, units int }

func count(w *World) sums {
	var s sums
	for _, n := range w.ore {
		s.ground += n
	}
	for _, p := range w.players {
		s.money += p.money
		s.units += len(p.units)
		for _, u := range p.units {
			s.cargo += u.cargo
		}
	}
	return s
}

// sound holds a world against what the document says of units, spots and sums; paid is what was paid for lots.
func sound(t *testing.T, w *World, first sums, paid int) {
	t.Helper()
	seen := map[spots.Spot]bool{}
	for number, p := range w.players {
		names := map[string]bool{}
		for _, u := range p.units {
			if names[u.name] || seen[u.at] || !w.sides.Hold(u.at) || u.cargo < 0 || u.cargo > api.MaxCargo {
				t.Fatalf("player %d: a unit that may not be: %+v", number, *u)
			}
			if n, ok := w.stands[u.at]; !ok || n != number {
				t.Fatalf("the map knows nothing of %+v of player %d", *u, number)
			}
			if len(letter(u.heading)) != 1 {
				t.Fatalf("player %d: %s", number, letter(u.heading))
			}
			names[u.name], seen[u.at] = true, true
		}
		if p.money < w.staked(number) || len(p.units) < 1 || len(p.units) > api.MaxUnits {
			t.Fatalf("player %d: money %d, bids of %d, %d units", number, p.money, w.staked(number), len(p.units))
		}
	}
	if len(seen) != len(w.stands) {
		t.Fatalf("%d units, %d in the map", len(seen), len(w.stands))
	}
	for at, n := range w.ore {
		if n < 1 || n > api.MaxOre || !w.sides.Hold(at) {
			t.Fatalf("ore %d at %v", n, at)
		}
	}
	now := count(w)
	sold := first.ground - now.ground - now.cargo
	built := now.units - first.units
	if sold < 0 || now.money != first.money+api.Price*sold-api.Cost*built-paid {
		t.Fatalf("at first %+v, now %+v, paid for lots: %d", first, now, paid)
	}
}

// seen is what a player sees, but for lots, by the document's words: from what the maps hold to lines that are sorted, not from spot to spot.
func seen(w *World, number int) string {
	type row struct {
		y, x, kind int
		text       string
	}
	p := w.players[number]
	near := func(at spots.Spot) bool {
		for _, u := range p.units {
			dx, dy := int(real(at))-int(real(u.at)), int(imag(at))-int(imag(u.at))
			if -w.sight <= dx && dx <= w.sight && -w.sight <= dy && dy <= w.sight {
				return true
			}
		}
		return false
	}
	var rows []row
	for at, n := range w.ore {
		if x, y := int(real(at)), int(imag(at)); near(at) {
			rows = append(rows, row{y, x, 0, fmt.Sprintf("ore %d %d %d\n", x, y, n)})
		}
	}
	for other, q := range w.players {
		for _, u := range q.units {
			if x, y := int(real(u.at)), int(imag(u.at)); other != number && near(u.at) {
				rows = append(rows, row{y, x, 1, fmt.Sprintf("other %d %d %d\n", x, y, other)})
			}
		}
	}
	slices.SortFunc(rows, func(a, b row) int {
		return cmp.Or(a.y-b.y, a.x-b.x, a.kind-b.kind)
	})
	text := fmt.Sprintf("tick %d money %d\n", w.tick, p.money)
	for _, u := range p.units {
		text += fmt.Sprintf("unit %s %v %v %s cargo %d\n", u.name, real(u.at), imag(u.at), letter(u.heading), u.cargo)
	}
	for _, r := range rows {
		text += r.text
	}
	return text
}

// looked lets all players look, and holds that against what they should see; it gives how many lines told of others and of ore.
func looked(t *testing.T, w *World, k *book) (others, ores int) {
	t.Helper()
	before := whole(w)
	for number := range w.players {
		got, e := w.View(number)
		if want := seen(w, number) + k.lines(number); got != want || e != api.OK {
			t.Fatalf("View(%d) = %q, %d, want %q", number, got, e, want)
		}
		others += strings.Count(got, "other ")
		ores += strings.Count(got, "ore ")
	}
	if whole(w) != before {
		t.Fatal("to look changed the world")
	}
	return others, ores
}

// step makes one call on both worlds, by the dice, and enters it into the book, which knows what is to be answered where lots are concerned.
func step(t *testing.T, d *dice, w, twin *World, k *book) (api.Errno, api.Errno) {
	t.Helper()
	player, text := d.roll(6)-1, d.text()
	switch d.roll(8) {
	case 0, 1:
		k.tick()
		return w.Tick(), twin.Tick()
	case 2:
		name, least, ticks := d.pick(lotNames), d.roll(15)-2, d.roll(9)
		e := w.Offer(name, least, ticks)
		if want := k.offer(name, least, ticks); e != want {
			t.Fatalf("Offer(%q, %d, %d) = %d, want %d", name, least, ticks, e, want)
		}
		return e, twin.Offer(name, least, ticks)
	case 3, 4:
		text = "bid " + d.pick(lotNames) + " " + strconv.Itoa(d.roll(30)+d.roll(3)*d.roll(40))
	}
	e := w.Order(player, text)
	if want, ok := k.order(w.players, player, text); ok && e != want {
		t.Fatalf("Order(%d, %q) = %d, want %d", player, text, e, want)
	}
	return e, twin.Order(player, text)
}

// TestWalks: two worlds that are told the same are the same; what is refused changes nothing; and each stays sound, and is seen as it is.
func TestWalks(t *testing.T) {
	var d dice
	made, built, others, ores, won := 0, 0, 0, 0, 0
	for range 100 {
		c := d.config()
		w, e := New(c)
		twin, e2 := New(c)
		if e != e2 || (w == nil) != (e != api.OK) {
			t.Fatalf("New(%+v): %d, %d", c, e, e2)
		}
		if w == nil {
			continue
		}
		made++
		first, k := count(w), newBook()
		for range 600 {
			before := whole(w)
			e, e2 := step(t, &d, w, twin, k)
			if e != e2 || whole(w) != whole(twin) {
				t.Fatalf("two worlds differ: %d, %d\n%s\n%s", e, e2, whole(w), whole(twin))
			}
			if e != api.OK && whole(w) != before {
				t.Fatalf("with the error %d the world is another one:\n%s\n%s", e, before, whole(w))
			}
			sound(t, w, first, k.paid)
			n, m := looked(t, w, k)
			others, ores = others+n, ores+m
		}
		built += count(w).units - first.units
		won += k.won
	}
	if made < 50 || built < 100 || others < 1000 || ores < 1000 || won < 500 {
		t.Errorf("the walks are too tame: %d worlds, %d units built, %d others and %d spots of ore seen, %d lots won", made, built, others, ores, won)
	}
}
