// Package lots says who gets a lot that is sold by sealed bids, and for how much.
package lots

import "haze/api"

// Nobody is the winner of a lot for which there was no bid that counts.
const Nobody = -1

// Lot is a lot for which players may bid.
type Lot struct {
	Name  string
	Until int                 // the tick at which it is not open any more
	Least int                 // a bid below it does not count
	Bids  [api.MaxPlayers]int // by the numbers of the players; 0 is no bid
}

// Sale is how a lot closed.
type Sale struct {
	Name   string
	Winner int // a player's number, or Nobody
	Price  int
}

// Close gives the lot to the highest bid, at the price of the second one (P7).
func (l *Lot) Close() Sale {
	s := Sale{Name: l.Name, Winner: Nobody}
	highest := 0
	for number, bid := range l.Bids {
		switch {
		case bid == 0 || bid < l.Least:
			continue
		case s.Winner == Nobody:
			s.Winner, s.Price, highest = number, l.Least, bid
		case bid > highest: // not where they are equal: the lower number came first
			s.Winner, s.Price, highest = number, highest, bid
		case bid > s.Price:
			s.Price = bid
		}
	}
	return s
}
