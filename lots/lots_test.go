package lots

import (
	"slices"
	"testing"

	"haze/api"
)

type bids = [api.MaxPlayers]int

func TestP7Close(t *testing.T) {
	for _, c := range []struct {
		least         int
		bids          bids
		winner, price int
	}{
		{0, bids{}, Nobody, 0},
		{5, bids{}, Nobody, 0},
		{0, bids{0, 0, 1, 0}, 2, 0},
		{10, bids{9, 9, 9, 9}, Nobody, 0},
		{10, bids{9, 10, 0, 0}, 1, 10},
		{10, bids{10, 9, 0, 0}, 0, 10},
		{10, bids{50, 9, 0, 0}, 0, 10},
		{10, bids{50, 10, 0, 0}, 0, 10},
		{10, bids{50, 11, 0, 0}, 0, 11},
		{20, bids{30, 50, 0, 0}, 1, 30},
		{20, bids{50, 30, 0, 0}, 0, 30},
		{0, bids{7, 7, 7, 7}, 0, 7},
		{0, bids{6, 7, 7, 7}, 1, 7},
		{0, bids{6, 5, 7, 7}, 2, 7},
		{0, bids{1, 2, 3, 4}, 3, 3},
		{0, bids{4, 3, 2, 1}, 0, 3},
		{0, bids{3, 4, 1, 2}, 1, 3},
		{0, bids{2, 1, 4, 3}, 2, 3},
		{api.MaxBid, bids{api.MaxBid - 1, 0, 0, api.MaxBid}, 3, api.MaxBid},
		{0, bids{0, api.MaxBid, 0, api.MaxBid}, 1, api.MaxBid},
	} {
		l := Lot{Name: "x", Until: 3, Least: c.least, Bids: c.bids}
		if got, want := l.Close(), (Sale{"x", c.winner, c.price}); got != want {
			t.Errorf("least %d, bids %v: %+v, want %+v", c.least, c.bids, got, want)
		}
	}
}

// each calls f for all lots of small numbers.
func each(f func(l Lot)) {
	const n = 6
	for i := range n * n * n * n * n {
		f(Lot{Name: "x", Least: i % n, Bids: bids{i / n % n, i / n / n % n, i / n / n / n % n, i / n / n / n / n}})
	}
}

// sorted is how a lot closes by another way: by sorting.
func sorted(l Lot) Sale {
	type offer struct{ bid, number int }
	var list []offer
	for number, bid := range l.Bids {
		if bid >= max(l.Least, 1) {
			list = append(list, offer{bid, number})
		}
	}
	slices.SortStableFunc(list, func(a, b offer) int { return b.bid - a.bid })
	switch len(list) {
	case 0:
		return Sale{l.Name, Nobody, 0}
	case 1:
		return Sale{l.Name, list[0].number, l.Least}
	}
	return Sale{l.Name, list[0].number, list[1].bid}
}

func TestP7AllSmall(t *testing.T) {
	each(func(l Lot) {
		before := l
		if got, want := l.Close(), sorted(l); got != want || l != before {
			t.Errorf("%+v: %+v, want %+v; the lot then: %+v", before, got, want, l)
		}
	})
}

// gain is what a player wins by a bid, where the lot is worth that much to it.
func gain(l Lot, player, bid, worth int) int {
	l.Bids[player] = bid
	if s := l.Close(); s.Winner == player {
		return worth - s.Price
	}
	return 0
}

// Whatever the others bid, no bid is better than what the lot is worth.
func TestP9TrueBidIsBest(t *testing.T) {
	const mostBid = 7
	each(func(l Lot) {
		for player := range l.Bids {
			worth := l.Bids[player]
			best := gain(l, player, worth, worth)
			for bid := range mostBid {
				if n := gain(l, player, bid, worth); n > best {
					t.Errorf("%+v: to player %d it is worth %d, but a bid of %d gains %d, the true one %d", l, player, worth, bid, n, best)
				}
			}
		}
	})
}

// The winner never pays more than it bid, nor less than least.
func TestP7PriceBetween(t *testing.T) {
	each(func(l Lot) {
		if s := l.Close(); s.Winner != Nobody && (s.Price > l.Bids[s.Winner] || s.Price < l.Least) {
			t.Errorf("%+v: %+v", l, s)
		}
	})
}
