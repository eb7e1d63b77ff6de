// Package spots has the places of a world and the headings of its units, both as complex numbers: x is the real part, y the imaginary one.
package spots

import "math"

// Spot is a place: x + yi.
type Spot complex128

// Heading is one step from a spot to the one ahead.
type Heading complex128

// The four headings.
const (
	East  Heading = 1
	North Heading = 1i
	West  Heading = -1
	South Heading = -1i
)

// At gives the spot x, y. A number too great for a float to tell exactly is rounded, but never to one that lies inside of a world.
func At(x, y int) Spot { return Spot(complex(float64(x), float64(y))) }

// X gives how far east the spot lies.
func (at Spot) X() int { return int(real(at)) }

// Y gives how far north the spot lies.
func (at Spot) Y() int { return int(imag(at)) }

// Far gives how far the spots are from each other: the greater one of how far their x, and how far their y, are apart.
func Far(one, other Spot) int {
	way := one - other
	return int(max(math.Abs(real(way)), math.Abs(imag(way))))
}

// Left gives the heading to the left of h.
func (h Heading) Left() Heading { return h * North }

// Right gives the heading to the right of h.
func (h Heading) Right() Heading { return h * South }

// Back gives the heading against h.
func (h Heading) Back() Heading { return h * West }

// Letter gives what the heading is told as.
func (h Heading) Letter() string {
	switch h {
	case North:
		return "n"
	case West:
		return "w"
	case South:
		return "s"
	}
	return "e"
}

// Sides are how many spots a world has from west to east, and from south to north.
type Sides struct{ Width, Height int }

// Hold tells whether the spot lies inside of the world.
func (s Sides) Hold(at Spot) bool {
	x, y := real(at), imag(at)
	return 0 <= x && x < float64(s.Width) && 0 <= y && y < float64(s.Height)
}

// Ahead gives the next spot in that heading, and false where the world ends.
func (s Sides) Ahead(at Spot, h Heading) (Spot, bool) {
	next := at + Spot(h)
	if !s.Hold(next) {
		return 0, false
	}
	return next, true
}
