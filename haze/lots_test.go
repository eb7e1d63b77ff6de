package haze

import (
	"fmt"
	"strings"
	"testing"
	"unsafe"

	"haze/api"
)

// plain is a world without ore, of players who are far from each other: their views are the tick, a unit, lots.
func plain(players int) api.Config {
	return api.Config{Width: 9, Height: 9, Sight: 1, Starts: []api.Spot{{}, {X: 8, Y: 8}, {X: 8}, {Y: 8}}[:players]}
}

func offer(t *testing.T, w *World, want api.Errno, name string, low, ticks int) {
	t.Helper()
	if e := w.Offer(name, low, ticks); e != want {
		t.Errorf("Offer(%.40q, %d, %d) = %d, want %d", name, low, ticks, e, want)
	}
}

// bids gives each player's bid for a lot, from player 0 on.
func bids(t *testing.T, w *World, lot string, list ...int) {
	t.Helper()
	for player, n := range list {
		order(t, w, player, api.OK, fmt.Sprintf("bid %s %d", lot, n))
	}
}

// told holds the lines behind that of a player's unit, in a world as of plain, against these.
func told(t *testing.T, w *World, player int, want ...string) {
	t.Helper()
	s, e := w.View(player)
	list := strings.Split(s, "\n")
	if e != api.OK || len(list) < 3 || strings.Join(list[2:], "\n") != strings.Join(append(want, ""), "\n") {
		t.Errorf("View(%d) = %q, %d, want of lots %q", player, s, e, want)
	}
}

// unchanged lets f go wrong, and sees that the world is as it was.
func unchanged(t *testing.T, w *World, f func()) {
	t.Helper()
	before := whole(w)
	f()
	if whole(w) != before {
		t.Errorf("what was refused changed the world:\n%s\n%s", before, whole(w))
	}
}

// TestFieldLots is what the document tells of lots in THE FIELD.
func TestFieldLots(t *testing.T) {
	for _, ticks := range []int{0, 7} {
		w := begin(t, field())
		for range ticks {
			tick(t, w)
		}
		order(t, w, 0, api.ErrName, "bid x 5")
		offer(t, w, api.OK, "x", 20, 2)
		line := fmt.Sprintf("lot x until %d least 20", ticks+2)
		view(t, w, 0, fmt.Sprintf("tick %d money 100", ticks), "unit a 0 0 e cargo 0", "ore 1 0 3", line)
		order(t, w, 0, api.ErrPoor, "bid x 1000")
		bids(t, w, "x", 30, 50)
		view(t, w, 0, fmt.Sprintf("tick %d money 100", ticks), "unit a 0 0 e cargo 0", "ore 1 0 3", line+" bid 30")
		tick(t, w)
		view(t, w, 1, fmt.Sprintf("tick %d money 100", ticks+1), "unit a 4 3 e cargo 0", line+" bid 50")
		tick(t, w)
		view(t, w, 1, fmt.Sprintf("tick %d money 70", ticks+2), "unit a 4 3 e cargo 0", "won x for 30")
		view(t, w, 0, fmt.Sprintf("tick %d money 100", ticks+2), "unit a 0 0 e cargo 0", "ore 1 0 3", "sold x")
	}
}

func TestP6NoName(t *testing.T) {
	w := begin(t, plain(2))
	offer(t, w, api.OK, "x", 0, 5)
	unchanged(t, w, func() {
		for _, s := range []string{"", " ", "X", "x ", " x", "x y", "x1", "1", "0", "x\n", "x\x00", "abcdefg", "αβγδεζη", "\xce", "\xb1", "x\xff", "`", "{", "\u03b0", "\u03ca", "é", "\ufffd",
			strings.Repeat("a", 1000000), strings.Repeat("\xff", 1000000)} {
			offer(t, w, api.ErrText, s, 0, 1)
			offer(t, w, api.ErrText, s, -1, 0)
		}
	})
}

func TestP6Names(t *testing.T) {
	for _, s := range []string{"a", "z", "α", "ω", "ς", "abcdef", "αβγδεζ", "bid", "lot", "aβ"} {
		w := begin(t, plain(2))
		offer(t, w, api.OK, s, 0, 1)
		bids(t, w, s, 5)
		told(t, w, 0, "lot "+s+" until 1 least 0 bid 5")
	}
}

func TestP6Bounds(t *testing.T) {
	for _, n := range []int{-1, api.MaxBid + 1, most, least} {
		w := begin(t, plain(2))
		unchanged(t, w, func() { offer(t, w, api.ErrArg, "x", n, 1) })
	}
	for _, n := range []int{-1, 0, api.MaxTicks + 1, most, least} {
		w := begin(t, plain(2))
		tick(t, w)
		unchanged(t, w, func() { offer(t, w, api.ErrArg, "x", 0, n) })
	}
	for _, n := range []int{0, 1, api.MaxBid - 1, api.MaxBid} {
		w := begin(t, plain(2))
		offer(t, w, api.OK, "x", n, 1)
		told(t, w, 1, fmt.Sprintf("lot x until 1 least %d", n))
	}
	for _, n := range []int{1, 2, api.MaxTicks - 1, api.MaxTicks} {
		w := begin(t, plain(2))
		tick(t, w)
		offer(t, w, api.OK, "x", 0, n)
		told(t, w, 1, fmt.Sprintf("lot x until %d least 0", n+1))
	}
}

// Of several errors the one that the document names first.
func TestP6FirstError(t *testing.T) {
	w := begin(t, plain(2))
	for _, s := range strings.Fields("d b c") {
		offer(t, w, api.OK, s, 3, 2)
	}
	unchanged(t, w, func() {
		offer(t, w, api.ErrTaken, "b", 3, 2)
		offer(t, w, api.ErrTaken, "c", -1, 0)
		offer(t, w, api.ErrArg, "a", -1, 1)
	})
	offer(t, w, api.OK, "a", 3, 2)
	unchanged(t, w, func() {
		for _, s := range strings.Fields("a b c d") {
			offer(t, w, api.ErrTaken, s, 3, 2)
			offer(t, w, api.ErrTaken, s, api.MaxBid+1, 0)
		}
		offer(t, w, api.ErrText, "", -1, 0)
		offer(t, w, api.ErrArg, "x", 0, 0)
		offer(t, w, api.ErrArg, "x", -1, 1)
		offer(t, w, api.ErrFull, "x", 0, 1)
		offer(t, w, api.ErrFull, "aa", api.MaxBid, api.MaxTicks)
	})
}

// Behind a lot that closed there is room again, and its name is free.
func TestP6RoomAgain(t *testing.T) {
	w := begin(t, plain(2))
	for i, s := range strings.Fields("a b c d") {
		offer(t, w, api.OK, s, 0, i+1)
	}
	offer(t, w, api.ErrFull, "e", 0, 1)
	offer(t, w, api.ErrTaken, "a", 0, 1)
	tick(t, w)
	offer(t, w, api.OK, "a", 9, 9)
	offer(t, w, api.ErrFull, "e", 0, 1)
	told(t, w, 0, "lot a until 10 least 9", "lot b until 2 least 0", "lot c until 3 least 0", "lot d until 4 least 0", "passed a")
	tick(t, w)
	told(t, w, 0, "lot a until 10 least 9", "lot c until 3 least 0", "lot d until 4 least 0", "passed b")
	offer(t, w, api.OK, "e", 0, 1)
	offer(t, w, api.ErrFull, "f", 0, 1)
}

// The world has one list of lots, and a lot may be called as a unit is.
func TestP6NamesOfUnits(t *testing.T) {
	w := begin(t, plain(2))
	offer(t, w, api.OK, "a", 0, 1)
	order(t, w, 0, api.OK, "bid a 5", "a call bid")
	tick(t, w)
	offer(t, w, api.OK, "bid", 0, 1)
	order(t, w, 0, api.OK, "bid bid 7", "bid left")
	order(t, w, 0, api.ErrName, "bid a 5")
	view(t, w, 0, "tick 1 money 100", "unit bid 0 0 e cargo 0", "lot bid until 2 least 0 bid 7", "won a for 0")
}

func TestP6BidErrors(t *testing.T) {
	w := begin(t, plain(2))
	offer(t, w, api.OK, "x", 0, 5)
	order(t, w, 0, api.OK, "bid x 40")
	unchanged(t, w, func() {
		order(t, w, 2, api.ErrArg, "bid x 5", "bid y 5", "bid x 05", "bid x 1000")
		order(t, w, -1, api.ErrArg, "bid x 5")
		order(t, w, most, api.ErrArg, "bid x 5")
		order(t, w, least, api.ErrArg, "bid x 5")
		order(t, w, 0, api.ErrText, "bid x 05", "bid x -1", "bid x 100001", "bid y 05", "bid x", "bid x 5 ", "bid x  5", "bid X 5")
		order(t, w, 0, api.ErrName, "bid y 5", "bid y 0", "bid y 100000", "bid xx 5", "bid a 5")
		order(t, w, 0, api.ErrPoor, "bid x 101", "bid x 100000")
	})
	told(t, w, 0, "lot x until 5 least 0 bid 40")
	told(t, w, 1, "lot x until 5 least 0")
}

// A bid takes the place of the one before it; 0 takes it back.
func TestP6Instead(t *testing.T) {
	w := begin(t, plain(2))
	offer(t, w, api.OK, "x", 0, 1)
	for _, n := range []int{100, 1, 99, 100, 2} {
		bids(t, w, "x", n)
		told(t, w, 0, fmt.Sprintf("lot x until 1 least 0 bid %d", n))
	}
	bids(t, w, "x", 0)
	told(t, w, 0, "lot x until 1 least 0")
	bids(t, w, "x", 0)
	told(t, w, 0, "lot x until 1 least 0")
	tick(t, w)
	told(t, w, 0, "passed x")
	money(t, w, 0, 100)
}

// A bid below least is a bid: it is told to the player, and its money is bound. It just doesn't win.
func TestP6BelowLeast(t *testing.T) {
	w := begin(t, plain(2))
	offer(t, w, api.OK, "x", 60, 1)
	offer(t, w, api.OK, "y", 0, 1)
	bids(t, w, "x", 59, 0)
	told(t, w, 0, "lot x until 1 least 60 bid 59", "lot y until 1 least 0")
	order(t, w, 0, api.ErrPoor, "bid y 42")
	order(t, w, 0, api.OK, "bid y 41")
	tick(t, w)
	told(t, w, 0, "passed x", "won y for 0")
}

// All of a player's bids together are never above its money; those of others don't matter.
func TestP6Together(t *testing.T) {
	w := begin(t, plain(3))
	for _, s := range strings.Fields("a b c d") {
		offer(t, w, api.OK, s, 0, 9)
		bids(t, w, s, 25, 0, 10)
	}
	unchanged(t, w, func() {
		order(t, w, 0, api.ErrPoor, "bid a 26", "bid b 26", "bid c 26", "bid d 26", "bid d 100000")
		order(t, w, 2, api.ErrPoor, "bid a 71", "bid d 71")
	})
	order(t, w, 2, api.OK, "bid b 70")
	order(t, w, 1, api.OK, "bid c 100")
	order(t, w, 0, api.OK, "bid a 25", "bid b 0", "bid c 50", "bid c 49", "bid d 26", "bid b 0")
	told(t, w, 0, "lot a until 9 least 0 bid 25", "lot b until 9 least 0", "lot c until 9 least 0 bid 49", "lot d until 9 least 0 bid 26")
	order(t, w, 0, api.ErrPoor, "bid b 1")
}

// Money that comes in may be bid at once, and no sooner.
func TestP6MoneyOfNow(t *testing.T) {
	c := plain(2)
	c.Ore = []api.Spot{{Amount: 5}}
	w := begin(t, c)
	offer(t, w, api.OK, "x", 0, 9)
	obey(t, w, 0, "a dig", "a dig")
	order(t, w, 0, api.OK, "a sell")
	order(t, w, 0, api.ErrPoor, "bid x 101")
	tick(t, w)
	order(t, w, 0, api.ErrPoor, "bid x 121")
	order(t, w, 0, api.OK, "bid x 120")
}

// A bid holds at once, costs nothing yet, and is no order for a unit: neither takes the place of the other.
func TestP6BidIsNoUnitsOrder(t *testing.T) {
	w := begin(t, plain(2))
	offer(t, w, api.OK, "x", 10, 2)
	order(t, w, 0, api.OK, "a go", "bid x 50")
	money(t, w, 0, 100)
	tick(t, w)
	view(t, w, 0, "tick 1 money 100", "unit a 1 0 e cargo 0", "lot x until 2 least 10 bid 50")
	order(t, w, 0, api.OK, "a left")
	tick(t, w)
	view(t, w, 0, "tick 2 money 90", "unit a 1 0 n cargo 0", "won x for 10")
}

func TestP7Prices(t *testing.T) {
	for _, c := range []struct {
		low, winner, price int
		bids               []int
	}{
		{0, -1, 0, nil},
		{0, -1, 0, []int{0, 0, 0, 0}},
		{10, -1, 0, []int{9, 9, 9, 9}},
		{10, 3, 10, []int{9, 9, 9, 10}},
		{10, 2, 10, []int{9, 9, 11, 9}},
		{10, 1, 10, []int{10, 11, 9, 9}},
		{10, 0, 11, []int{12, 11, 10, 9}},
		{0, 2, 0, []int{0, 0, 100, 0}},
		{0, 3, 1, []int{1, 1, 1, 2}},
		{50, 0, 50, []int{50, 50, 50, 50}},
		{0, 1, 100, []int{99, 100, 100, 98}},
		{api.MaxBid, -1, 0, []int{100, 100, 100, 100}},
	} {
		w := begin(t, plain(4))
		offer(t, w, api.OK, "x", c.low, 1)
		bids(t, w, "x", c.bids...)
		tick(t, w)
		for p := range 4 {
			line, paid := "sold x", 0
			if c.winner < 0 {
				line = "passed x"
			} else if c.winner == p {
				line, paid = fmt.Sprintf("won x for %d", c.price), c.price
			}
			told(t, w, p, line)
			money(t, w, p, 100-paid)
		}
	}
}

// It closes at the Tick that was told, neither sooner nor later, and is told of until the next one.
func TestP7When(t *testing.T) {
	for _, ticks := range []int{1, 2, 3, 10} {
		w := begin(t, plain(2))
		tick(t, w)
		offer(t, w, api.OK, "x", 3, ticks)
		bids(t, w, "x", 5, 5)
		for range ticks - 1 {
			tick(t, w)
			told(t, w, 0, fmt.Sprintf("lot x until %d least 3 bid 5", ticks+1))
			money(t, w, 0, 100)
		}
		tick(t, w)
		money(t, w, 0, 95)
		for range 2 {
			told(t, w, 0, "won x for 5")
			told(t, w, 1, "sold x")
			order(t, w, 0, api.ErrName, "bid x 5", "bid x 0")
		}
		tick(t, w)
		told(t, w, 0)
		told(t, w, 1)
		money(t, w, 0, 95)
		money(t, w, 1, 100)
	}
}

// No bid outlives its lot, and none passes to another one that takes its name or its place in the list.
func TestP7BidsGone(t *testing.T) {
	w := begin(t, plain(2))
	offer(t, w, api.OK, "x", 50, 1)
	offer(t, w, api.OK, "y", 0, 3)
	bids(t, w, "x", 40, 60)
	bids(t, w, "y", 7)
	order(t, w, 0, api.ErrPoor, "bid y 61")
	tick(t, w)
	told(t, w, 0, "lot y until 3 least 0 bid 7", "sold x")
	money(t, w, 1, 50)
	order(t, w, 0, api.OK, "bid y 100", "bid y 7")
	offer(t, w, api.OK, "x", 0, 1)
	told(t, w, 1, "lot x until 2 least 0", "lot y until 3 least 0", "won x for 50")
	told(t, w, 0, "lot x until 2 least 0", "lot y until 3 least 0 bid 7", "sold x")
	tick(t, w)
	told(t, w, 0, "lot y until 3 least 0 bid 7", "passed x")
	tick(t, w)
	told(t, w, 0, "won y for 0")
	money(t, w, 0, 100)
	money(t, w, 1, 50)
}

// Several close at one Tick, each by its own bids; a winner pays for all that it won.
func TestP7Several(t *testing.T) {
	w := begin(t, plain(3))
	for _, s := range strings.Fields("d b a c") {
		offer(t, w, api.OK, s, 10, 2)
	}
	bids(t, w, "a", 30, 20, 5)
	bids(t, w, "b", 70, 75, 80)
	bids(t, w, "c", 0, 5, 5)
	bids(t, w, "d", 0, 0, 10)
	tick(t, w)
	tick(t, w)
	told(t, w, 0, "won a for 20", "sold b", "passed c", "sold d")
	told(t, w, 1, "sold a", "sold b", "passed c", "sold d")
	told(t, w, 2, "sold a", "won b for 75", "passed c", "won d for 10")
	money(t, w, 0, 80)
	money(t, w, 1, 100)
	money(t, w, 2, 15)
}

// A player may spend its last money on lots.
func TestP7LastMoney(t *testing.T) {
	w := begin(t, plain(2))
	offer(t, w, api.OK, "x", 60, 1)
	offer(t, w, api.OK, "y", 40, 1)
	bids(t, w, "x", 60)
	bids(t, w, "y", 40)
	tick(t, w)
	view(t, w, 0, "tick 1 money 0", "unit a 0 0 e cargo 0", "won x for 60", "won y for 40")
	offer(t, w, api.OK, "x", 0, 1)
	order(t, w, 0, api.ErrPoor, "bid x 1")
	order(t, w, 0, api.OK, "bid x 0")
}

// In the order in which Go compares strings: Greek behind Latin, the shorter first; whatever the order in which they were offered.
func TestP8LotsInOrder(t *testing.T) {
	for _, names := range []string{"α z ab b", "b ab z α", "ab b z α", "z α b ab"} {
		w := begin(t, plain(2))
		for _, s := range strings.Fields(names) {
			offer(t, w, api.OK, s, 1, 1)
		}
		bids(t, w, "z", 0, 3)
		bids(t, w, "α", 9)
		told(t, w, 0, "lot ab until 1 least 1", "lot b until 1 least 1", "lot z until 1 least 1", "lot α until 1 least 1 bid 9")
		told(t, w, 1, "lot ab until 1 least 1", "lot b until 1 least 1", "lot z until 1 least 1 bid 3", "lot α until 1 least 1")
		tick(t, w)
		told(t, w, 0, "passed ab", "passed b", "sold z", "won α for 1")
		told(t, w, 1, "passed ab", "passed b", "won z for 1", "sold α")
	}
	w := begin(t, plain(2))
	for _, s := range strings.Fields("aaa aa ω a") {
		offer(t, w, api.OK, s, 0, 7)
	}
	told(t, w, 1, "lot a until 7 least 0", "lot aa until 7 least 0", "lot aaa until 7 least 0", "lot ω until 7 least 0")
}

// Lots come behind what is near, the open ones ahead of those that closed.
func TestP8LotsLast(t *testing.T) {
	c := field()
	c.Starts[1] = api.Spot{X: 1, Y: 1}
	w := begin(t, c)
	offer(t, w, api.OK, "a", 5, 1)
	offer(t, w, api.OK, "b", 6, 2)
	bids(t, w, "a", 8, 7)
	bids(t, w, "b", 0, 9)
	tick(t, w)
	view(t, w, 0, "tick 1 money 93", "unit a 0 0 e cargo 0", "ore 1 0 3", "other 1 1 1", "lot b until 2 least 6", "won a for 7")
	view(t, w, 1, "tick 1 money 100", "unit a 1 1 e cargo 0", "other 0 0 0", "ore 1 0 3", "lot b until 2 least 6 bid 9", "sold a")
}

func TestP8NoLotsAtFirst(t *testing.T) {
	w := begin(t, plain(2))
	told(t, w, 0)
	tick(t, w)
	told(t, w, 0)
}

// At the last tick lots close as ever; those that would close later stay open for good, and some may be offered still.
func TestP6LastTick(t *testing.T) {
	w := begin(t, plain(2))
	for range api.MaxTicks - 1 {
		tick(t, w)
	}
	offer(t, w, api.OK, "x", 5, 1)
	offer(t, w, api.OK, "y", 5, 2)
	bids(t, w, "x", 6, 7)
	tick(t, w)
	unchanged(t, w, func() {
		if e := w.Tick(); e != api.ErrFull {
			t.Errorf("Tick behind the last one = %d", e)
		}
	})
	told(t, w, 0, "lot y until 1001 least 5", "sold x")
	told(t, w, 1, "lot y until 1001 least 5", "won x for 6")
	offer(t, w, api.OK, "z", 0, api.MaxTicks)
	bids(t, w, "y", 9)
	told(t, w, 0, "lot y until 1001 least 5 bid 9", "lot z until 2000 least 0", "sold x")
}

// What is bid can't be built with, neither while the lot is open nor in the Tick at which it closes.
func TestP5BuildWithBids(t *testing.T) {
	w := begin(t, plain(2))
	offer(t, w, api.OK, "x", 90, 2)
	offer(t, w, api.OK, "y", 0, 9)
	bids(t, w, "x", 30, 100)
	bids(t, w, "y", 21)
	obey(t, w, 0, "a build b") // 49 are left
	money(t, w, 0, 100)
	obey(t, w, 0, "a build b") // x closes behind that
	money(t, w, 0, 100)
	told(t, w, 0, "lot y until 9 least 0 bid 21", "sold x")
	obey(t, w, 0, "a build b")
	money(t, w, 0, 50)

	w = begin(t, plain(2))
	offer(t, w, api.OK, "x", 0, 9)
	bids(t, w, "x", 50, 100)
	obey(t, w, 0, "a build b") // just Cost is left
	money(t, w, 0, 50)
	order(t, w, 0, api.ErrPoor, "bid x 51")
	order(t, w, 0, api.OK, "bid x 49", "bid x 50")
	obey(t, w, 0, "b build c")
	money(t, w, 0, 50)
}

// What is sold in the same Tick may be built with, and what was won is not paid yet.
func TestP5ClosesLast(t *testing.T) {
	c := plain(2)
	c.Ore = []api.Spot{{Amount: 9}}
	w := begin(t, c)
	obey(t, w, 0, "a build b", "a dig") // money 50
	offer(t, w, api.OK, "x", 0, 1)
	bids(t, w, "x", 10, 10)
	order(t, w, 0, api.OK, "a sell", "b build c")
	tick(t, w)
	view(t, w, 0, "tick 3 money 0", "unit a 0 0 e cargo 0", "unit b 1 0 e cargo 0", "unit c 2 0 e cargo 0", "ore 0 0 8", "won x for 10")
}

// The bytes behind a name may change when the call has answered.
func TestP2LotNameNotKept(t *testing.T) {
	w := begin(t, plain(2))
	name := []byte("bcd")
	offer(t, w, api.OK, unsafe.String(&name[0], len(name)), 0, 1)
	text := []byte("bid bcd 5")
	order(t, w, 0, api.OK, unsafe.String(&text[0], len(text)))
	copy(name, "ZZZ")
	copy(text, "ZZZZZZZZZ")
	told(t, w, 0, "lot bcd until 1 least 0 bid 5")
	offer(t, w, api.ErrTaken, "bcd", 0, 1)
	tick(t, w)
	told(t, w, 0, "won bcd for 0")
}

// A world knows nothing of another one's lots.
func TestP2LotsOfOneWorld(t *testing.T) {
	one, other := begin(t, plain(2)), begin(t, plain(2))
	offer(t, one, api.OK, "x", 0, 1)
	bids(t, one, "x", 5)
	told(t, other, 0)
	order(t, other, 0, api.ErrName, "bid x 5")
	offer(t, other, api.OK, "x", 7, 2)
	tick(t, other)
	told(t, one, 0, "lot x until 1 least 0 bid 5")
	told(t, other, 0, "lot x until 2 least 7")
}

// Whatever another player bids, nothing of it is seen while the lot is open, nor behind that but whether it went.
func TestP9OthersBidsUnseen(t *testing.T) {
	play := func(theirs int) (open, behind string) {
		c := field()
		c.Starts[1] = api.Spot{X: 1, Y: 1}
		w := begin(t, c)
		offer(t, w, api.OK, "x", 20, 2)
		offer(t, w, api.OK, "y", 0, 9)
		bids(t, w, "y", 7, 10)
		bids(t, w, "x", 30, theirs)
		order(t, w, 1, api.OK, "a go")
		for range 2 {
			s, _ := w.View(0)
			open += s
			tick(t, w)
			if e := w.Order(0, "bid y 70"); e != api.OK {
				t.Errorf("another's bid of %d: a bid is refused: %d", theirs, e)
			}
		}
		behind, _ = w.View(0)
		return open, behind
	}
	open, _ := play(0)
	_, sold := play(31)
	if !strings.Contains(open, "other 1 1 1\nlot x until 2 least 20 bid 30\nlot y until 9 least 0 bid 7\n") || !strings.HasSuffix(sold, "sold x\n") {
		t.Errorf("seen: %q, then %q", open, sold)
	}
	for theirs := range 91 {
		now, behind := play(theirs)
		if now != open {
			t.Errorf("another's bid of %d is seen: %q, else %q", theirs, now, open)
		}
		if theirs > 30 && behind != sold {
			t.Errorf("how much another bid is seen: %q, else %q", behind, sold)
		}
	}
}

// A lot that went to another looks the same to all who lost, whatever they bid themselves and whatever was paid.
func TestP9LosersLearnNoPrice(t *testing.T) {
	for _, list := range [][]int{{0, 90, 80}, {10, 90, 0}, {89, 90, 1}, {10, 20, 15}} {
		w := begin(t, plain(3))
		offer(t, w, api.OK, "x", 5, 1)
		bids(t, w, "x", list...)
		tick(t, w)
		view(t, w, 0, "tick 1 money 100", "unit a 0 0 e cargo 0", "sold x")
		view(t, w, 2, "tick 1 money 100", "unit a 8 0 e cargo 0", "sold x")
	}
}

// By the calls alone: no bid comes off better than that of what the lot is worth.
func TestP9TrueBidIsBest(t *testing.T) {
	gain := func(low, worth int, list ...int) int {
		w := begin(t, plain(3))
		offer(t, w, api.OK, "x", low, 1)
		bids(t, w, "x", list...)
		tick(t, w)
		n, _ := w.Money(1)
		if s, _ := w.View(1); strings.Contains(s, "won x") {
			n += worth
		}
		return n
	}
	for _, low := range []int{0, 1, 3} {
		for first := range 5 {
			for third := range 5 {
				for worth := range 6 {
					best := gain(low, worth, first, worth, third)
					for bid := range 7 {
						if n := gain(low, worth, first, bid, third); n > best {
							t.Errorf("least %d, the others bid %d and %d, worth %d: a bid of %d leaves %d, the true one %d", low, first, third, worth, bid, n, best)
						}
					}
				}
			}
		}
	}
}
