package spots

import "testing"

const (
	most  = 1<<63 - 1
	least = -1 << 63
)

func TestTurns(t *testing.T) {
	round := []Heading{East, North, West, South}
	for i, h := range round {
		if got := h.Left(); got != round[(i+1)%4] {
			t.Errorf("to the left of %v is %v", h, got)
		}
		if got := h.Back(); got != round[(i+2)%4] {
			t.Errorf("behind %v is %v", h, got)
		}
		if got := h.Right(); got != round[(i+3)%4] {
			t.Errorf("to the right of %v is %v", h, got)
		}
	}
}

// Many turns leave a heading exact, as it is a step between spots that are keys of maps.
func TestManyTurns(t *testing.T) {
	h := East
	for range 4000 {
		h = h.Left().Back().Right().Left()
		h = h.Back()
	}
	if h != East {
		t.Errorf("4000 times around: %v", h)
	}
	if n := (map[Spot]int{At(0, 0) + Spot(East.Left().Left().Left()): 1})[At(0, -1)]; n != 1 {
		t.Error("a spot that was reached by turns is another key than the same spot")
	}
}

func TestAhead(t *testing.T) {
	s := Sides{Width: 5, Height: 4}
	for _, c := range []struct {
		x, y int
		h    Heading
		want Spot
		ok   bool
	}{
		{2, 2, East, At(3, 2), true}, {2, 2, North, At(2, 3), true}, {2, 2, West, At(1, 2), true}, {2, 2, South, At(2, 1), true},
		{3, 0, East, At(4, 0), true}, {4, 0, East, 0, false}, {4, 3, North, 0, false}, {4, 2, North, At(4, 3), true},
		{1, 0, West, At(0, 0), true}, {0, 0, West, 0, false}, {0, 1, South, At(0, 0), true}, {0, 0, South, 0, false},
	} {
		if got, ok := s.Ahead(At(c.x, c.y), c.h); got != c.want || ok != c.ok {
			t.Errorf("ahead of %d, %d in %v: %v, %v", c.x, c.y, c.h, got, ok)
		}
	}
}

func TestXY(t *testing.T) {
	for x := range 10 {
		for y := range 10 {
			if at := At(x, y); at.X() != x || at.Y() != y {
				t.Errorf("%d, %d is told as %d, %d", x, y, at.X(), at.Y())
			}
		}
	}
	at := At(1, 1) + Spot(East.Back()) + Spot(East.Right())
	if at.X() != 0 || at.Y() != 0 {
		t.Errorf("reached by turns: %d, %d", at.X(), at.Y())
	}
}

func TestFar(t *testing.T) {
	for _, c := range []struct{ x, y, want int }{
		{3, 5, 0}, {4, 5, 1}, {2, 5, 1}, {3, 6, 1}, {3, 4, 1}, {4, 6, 1}, {2, 4, 1}, {4, 4, 1}, {2, 6, 1},
		{5, 6, 2}, {1, 4, 2}, {4, 7, 2}, {2, 3, 2}, {0, 5, 3}, {0, 2, 3}, {0, 8, 3}, {0, 0, 5}, {3, 9, 4}, {9, 5, 6}, {9, 0, 6}, {9, 9, 6},
	} {
		one, other := At(3, 5), At(c.x, c.y)
		if got := Far(one, other); got != c.want {
			t.Errorf("3, 5 and %d, %d are far from each other by %d, want %d", c.x, c.y, got, c.want)
		}
		if Far(one, other) != Far(other, one) {
			t.Errorf("3, 5 and %d, %d: there and back differ", c.x, c.y)
		}
	}
}

func TestLetter(t *testing.T) {
	h := East
	for i := range 40 {
		if got, want := h.Letter(), "enws"[i%4:i%4+1]; got != want {
			t.Errorf("%d times to the left: %s, want %s", i, got, want)
		}
		h = h.Left()
	}
	if got := East.Right().Letter() + East.Back().Letter() + East.Right().Back().Letter(); got != "swn" {
		t.Errorf("right, back, both: %s", got)
	}
}

func TestHold(t *testing.T) {
	s := Sides{Width: 5, Height: 4}
	for _, at := range []Spot{At(0, 0), At(4, 0), At(0, 3), At(4, 3), At(2, 1)} {
		if !s.Hold(at) {
			t.Errorf("%v lies outside", at)
		}
	}
	for _, at := range []Spot{At(-1, 0), At(0, -1), At(5, 0), At(0, 4), At(most, 0), At(0, most), At(least, 0), At(0, least), At(1<<53+1, 1)} {
		if s.Hold(at) {
			t.Errorf("%v lies inside", at)
		}
	}
}
