package spots

import "testing"

const (
	most  = 1<<63 - 1
	least = -1 << 63
)

func TestTurns(t *testing.T) {
	round := []Heading{East, North, West, South}
	for i, h := range round {
		if got := h.Left(); got != round[(i+1)%4] {
			t.Errorf("to the left of %v is %v", h, got)
		}
		if got := h.Back(); got != round[(i+2)%4] {
			t.Errorf("behind %v is %v", h, got)
		}
		if got := h.Right(); got != round[(i+3)%4] {
			t.Errorf("to the right of %v is %v", h, got)
		}
	}
}

// Many turns leave a heading exact, as it is a step between spots that are keys of maps.
func TestManyTurns(t *testing.T) {
	h := East
	for range 4000 {
		h = h.Left().Back().Right().Left()
		h = h.Back()
	}
	if h != East {
		t.Errorf("4000 times around: %v", h)
	}
	if n := (map[Spot]int{At(0, 0) + Spot(East.Left().Left().Left()): 1})[At(0, -1)]; n != 1 {
		t.Error("a spot that was reached by turns is another key than the same spot")
	}
}

func TestAhead(t *testing.T) {
	s := Sides{Width: 5, Height: 4}
	for _, c := range []struct {
		x, y int
		h    Heading
		want Spot
		ok   bool
	}{
		{2, 2, East, At(3, 2), true}, {2, 2, North, At(2, 3), true}, {2, 2, West, At(1, 2), true}, {2, 2, South, At(2, 1), true},
		{3, 0, East, At(4, 0), true}, {4, 0, East, 0, false}, {4, 3, North, 0, false}, {4, 2, North, At(4, 3), true},
		{1, 0, West, At(0, 0), true}, {0, 0, West, 0, false}, {0, 1, South, At(0, 0), true}, {0, 0, South, 0, false},
	} {
		if got, ok := s.Ahead(At(c.x, c.y), c.h); got != c.want || ok != c.ok {
			t.Errorf("ahead of %d, %d in %v: %v, %v", c.x, c.y, c.h, got, ok)
		}
	}
}

func TestHold(t *testing.T) {
	s := Sides{Width: 5, Height: 4}
	for _, at := range []Spot{At(0, 0), At(4, 0), At(0, 3), At(4, 3), At(2, 1)} {
		if !s.Hold(at) {
			t.Errorf("%v lies outside", at)
		}
	}
	for _, at := range []Spot{At(-1, 0), At(0, -1), At(5, 0), At(0, 4), At(most, 0), At(0, most), At(least, 0), At(0, least), At(1<<53+1, 1)} {
		if s.Hold(at) {
			t.Errorf("%v lies inside", at)
		}
	}
}
