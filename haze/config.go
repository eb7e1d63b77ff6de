package haze

import (
	"haze/api"
	"haze/spots"
)

// fits tells whether New may make a world of c.
func fits(c api.Config) bool {
	sides := spots.Sides{Width: c.Width, Height: c.Height}
	return between(c.Width, api.MinSide, api.MaxSide) &&
		between(c.Height, api.MinSide, api.MaxSide) &&
		between(c.Sight, 1, api.MaxSight) &&
		between(len(c.Starts), api.MinPlayers, api.MaxPlayers) &&
		len(c.Ore) <= api.MaxSpots &&
		apart(sides, c.Starts) &&
		apart(sides, c.Ore) &&
		amountsFit(c.Ore)
}

func between(n, least, most int) bool { return least <= n && n <= most }

// apart tells whether all of the list lie inside of the world, no two at the same place.
func apart(sides spots.Sides, list []api.Spot) bool {
	seen := make(map[spots.Spot]int)
	for _, s := range list {
		at := spots.At(s.X, s.Y)
		if !sides.Hold(at) || seen[at] > 0 {
			return false
		}
		seen[at]++
	}
	return true
}

func amountsFit(ore []api.Spot) bool {
	for _, s := range ore {
		if !between(s.Amount, 1, api.MaxOre) {
			return false
		}
	}
	return true
}
