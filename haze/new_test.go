package haze

import (
	"slices"
	"strings"
	"testing"

	"haze/api"
	"haze/spots"
)

// row gives spots side by side, each with ore.
func row(n int) []api.Spot {
	var list []api.Spot
	for i := range n {
		list = append(list, api.Spot{X: i % 5, Y: i / 5, Amount: 1})
	}
	return list
}

func TestP3Refuses(t *testing.T) {
	for name, change := range map[string]func(c *api.Config){
		"narrow":           func(c *api.Config) { c.Width = 2; c.Starts[1].X = 1 },
		"width 0":          func(c *api.Config) { c.Width = 0 },
		"width -5":         func(c *api.Config) { c.Width = -5 },
		"wide":             func(c *api.Config) { c.Width = 11 },
		"widest":           func(c *api.Config) { c.Width = most },
		"width least":      func(c *api.Config) { c.Width = least },
		"low":              func(c *api.Config) { c.Height = 2; c.Starts[1].Y = 1 },
		"high":             func(c *api.Config) { c.Height = 11 },
		"highest":          func(c *api.Config) { c.Height = most },
		"height least":     func(c *api.Config) { c.Height = least },
		"blind":            func(c *api.Config) { c.Sight = 0 },
		"sight -1":         func(c *api.Config) { c.Sight = -1 },
		"sharp":            func(c *api.Config) { c.Sight = 5 },
		"sharpest":         func(c *api.Config) { c.Sight = most },
		"nobody":           func(c *api.Config) { c.Starts = nil },
		"no start":         func(c *api.Config) { c.Starts = []api.Spot{} },
		"alone":            func(c *api.Config) { c.Starts = c.Starts[:1] },
		"five":             func(c *api.Config) { c.Starts = row(5) },
		"seven ores":       func(c *api.Config) { c.Ore = row(7) },
		"start east":       func(c *api.Config) { c.Starts[1].X = 5 },
		"start west":       func(c *api.Config) { c.Starts[0].X = -1 },
		"start north":      func(c *api.Config) { c.Starts[1].Y = 4 },
		"start south":      func(c *api.Config) { c.Starts[0].Y = -1 },
		"start far":        func(c *api.Config) { c.Starts[0].X = most },
		"start far south":  func(c *api.Config) { c.Starts[0].Y = least },
		"ore east":         func(c *api.Config) { c.Ore[0].X = 5 },
		"ore west":         func(c *api.Config) { c.Ore[0].X = -1 },
		"ore north":        func(c *api.Config) { c.Ore[0].Y = 4 },
		"ore south":        func(c *api.Config) { c.Ore[0].Y = -1 },
		"ore far":          func(c *api.Config) { c.Ore[0].Y = most },
		"same start":       func(c *api.Config) { c.Starts[1] = c.Starts[0] },
		"same start later": func(c *api.Config) { c.Starts = append(c.Starts, api.Spot{X: 2}, api.Spot{X: 4, Y: 3, Amount: 7}) },
		"same ore":         func(c *api.Config) { c.Ore = append(c.Ore, api.Spot{X: 1, Amount: 3}) },
		"same ore, other":  func(c *api.Config) { c.Ore = append(c.Ore, api.Spot{X: 1, Amount: 4}) },
		"no amount":        func(c *api.Config) { c.Ore[0].Amount = 0 },
		"less":             func(c *api.Config) { c.Ore[0].Amount = -1 },
		"too much":         func(c *api.Config) { c.Ore[0].Amount = 100 },
		"last too much":    func(c *api.Config) { c.Ore = row(6); c.Ore[5].Amount = most },
		"nothing at all":   func(c *api.Config) { *c = api.Config{} },
	} {
		c := field()
		change(&c)
		if w, e := New(c); w != nil || e != api.ErrArg {
			t.Errorf("%s: New(%+v) = %v, %d", name, c, w, e)
		}
	}
}

func TestP3Edges(t *testing.T) {
	for name, c := range map[string]api.Config{
		"least":          {Width: 3, Height: 3, Sight: 1, Starts: []api.Spot{{}, {X: 2, Y: 2}}},
		"most":           {Width: 10, Height: 10, Sight: 4, Starts: []api.Spot{{}, {X: 9}, {Y: 9}, {X: 9, Y: 9}}, Ore: row(6)},
		"flat":           {Width: 10, Height: 3, Sight: 2, Starts: []api.Spot{{X: 9, Y: 2}, {X: 9, Y: 1}, {}}, Ore: []api.Spot{}},
		"amounts":        {Width: 5, Height: 5, Sight: 1, Starts: row(4), Ore: []api.Spot{{Amount: 1}, {X: 4, Y: 4, Amount: 99}}},
		"start's amount": {Width: 5, Height: 5, Sight: 1, Starts: []api.Spot{{Amount: least}, {X: 1, Amount: most}}},
	} {
		if w, e := New(c); w == nil || e != api.OK {
			t.Errorf("%s: New(%+v) = %v, %d", name, c, w, e)
		}
	}
}

func TestP3World(t *testing.T) {
	c := api.Config{Width: 10, Height: 3, Sight: 2, Starts: []api.Spot{{X: 9, Y: 2, Amount: 8}, {}, {X: 1}}, Ore: []api.Spot{{Amount: 99}, {X: 4, Y: 1, Amount: 1}}}
	w := begin(t, c)
	units(t, w, 0, "a 9 2 e cargo 0")
	units(t, w, 1, "a 0 0 e cargo 0")
	units(t, w, 2, "a 1 0 e cargo 0")
	for p := range 3 {
		money(t, w, p, 100)
	}
	if w.tick != 0 {
		t.Errorf("the tick is %d", w.tick)
	}
	if len(w.ore) != 2 || w.ore[spots.At(0, 0)] != 99 || w.ore[spots.At(4, 1)] != 1 {
		t.Errorf("ore: %v", w.ore)
	}
}

func TestP2New(t *testing.T) {
	ore := []api.Spot{{X: 1, Amount: 3}, {X: 7, Y: 7, Amount: 7}, {X: 8}}
	starts := []api.Spot{{}, {X: 4, Y: 3}, {X: 9}, {X: 10}}
	ore0, starts0 := slices.Clone(ore), slices.Clone(starts)
	c := field()
	c.Ore, c.Starts = ore[:1], starts[:2]
	w := begin(t, c)
	obey(t, w, 0, "a build b", "b dig", "b sell", "a left", "a go")
	if !slices.Equal(ore, ore0) || !slices.Equal(starts, starts0) {
		t.Errorf("what was handed in was written into: %v, %v", ore, starts)
	}

	w = begin(t, c)
	before := whole(w)
	clear(ore)
	clear(starts)
	if whole(w) != before {
		t.Error("what was handed in was kept: the world is another one when the caller changes it")
	}
	obey(t, w, 0, "a go", "a dig", "a sell")
	money(t, w, 0, 110)
}

func TestP2NoOre(t *testing.T) {
	for _, ore := range [][]api.Spot{nil, {}, make([]api.Spot, 0, 5)} {
		c := field()
		c.Ore = ore
		w := begin(t, c)
		obey(t, w, 0, "a dig", "a sell", "a go", "a dig", "a sell")
		money(t, w, 0, 100)
	}
}

// What is told to one world is nothing to another.
func TestP2WorldsApart(t *testing.T) {
	c := field()
	one, other := begin(t, c), begin(t, c)
	before := whole(other)
	order(t, other, 0, api.OK, "a back")
	obey(t, one, 0, "a build b", "b dig", "b sell", "a call c")
	order(t, other, 0, api.ErrName, "b go", "c go")
	money(t, other, 0, 100)
	order(t, other, 0, api.OK, "a go")
	obey(t, other, 0, "a call a")
	if got := whole(other); got != strings.Replace(before, "0 {5 4}", "1 {5 4}", 1) {
		t.Errorf("the other world was\n%sand is\n%s", before, got)
	}
}
