package haze

import (
	"fmt"
	"maps"
	"regexp"
	"slices"
	"strconv"

	"haze/api"
)

// lotNames are what lots are called in walks; the last ones are no names.
var lotNames = []string{"a", "a", "b", "β", "zz", "bid", "aβ", "abcdef", "abcdefg", "A"}

var (
	aName = regexp.MustCompile(`^[a-z\x{3b1}-\x{3c9}]{1,6}$`)
	aBid  = regexp.MustCompile(`^bid ([a-z\x{3b1}-\x{3c9}]{1,6}) (0|[1-9][0-9]{0,5})$`)
)

// book is lots once more, by another way: maps by names, gone through in sorted order, bids by players.
type book struct {
	now       int
	lots      map[string]entry
	closed    []string // names, in order
	winners   map[string]int
	prices    map[string]int
	paid, won int
}

type entry struct {
	until, least int
	bids         map[int]int
}

func newBook() *book { return &book{lots: map[string]entry{}} }

func (k *book) offer(s string, least, ticks int) api.Errno {
	_, taken := k.lots[s]
	switch {
	case !aName.MatchString(s):
		return api.ErrText
	case taken:
		return api.ErrTaken
	case least < 0 || least > 100000 || ticks < 1 || ticks > 1000:
		return api.ErrArg
	case len(k.lots) == 4:
		return api.ErrFull
	}
	k.lots[s] = entry{k.now + ticks, least, map[int]int{}}
	return api.OK
}

// order tells what is to be answered to a bid, and false if the text is none.
func (k *book) order(players []player, number int, text string) (api.Errno, bool) {
	words := aBid.FindStringSubmatch(text)
	if words == nil {
		return api.OK, false
	}
	if number < 0 || number >= len(players) {
		return api.ErrArg, true
	}
	lot, open := k.lots[words[1]]
	if !open {
		return api.ErrName, true
	}
	n, _ := strconv.Atoi(words[2])
	sum := n
	for s, other := range k.lots {
		if s != words[1] {
			sum += other.bids[number]
		}
	}
	if sum > players[number].money {
		return api.ErrPoor, true
	}
	lot.bids[number] = n
	return api.OK, true
}

func (k *book) tick() {
	k.now++
	k.closed, k.winners, k.prices = nil, map[string]int{}, map[string]int{}
	for _, s := range slices.Sorted(maps.Keys(k.lots)) {
		lot := k.lots[s]
		if lot.until != k.now {
			continue
		}
		delete(k.lots, s)
		k.closed = append(k.closed, s)
		var list []int
		for _, n := range lot.bids {
			if n >= lot.least && n > 0 {
				list = append(list, n)
			}
		}
		if len(list) == 0 {
			continue
		}
		slices.Sort(list)
		slices.Reverse(list)
		list = append(list, lot.least)
		k.prices[s] = list[1]
		for number := 3; number >= 0; number-- {
			if lot.bids[number] == list[0] {
				k.winners[s] = number
			}
		}
		k.paid += list[1]
		k.won++
	}
}

// lines is what a player sees of lots.
func (k *book) lines(number int) string {
	text := ""
	for _, s := range slices.Sorted(maps.Keys(k.lots)) {
		lot := k.lots[s]
		text += fmt.Sprintf("lot %s until %d least %d", s, lot.until, lot.least)
		if n := lot.bids[number]; n > 0 {
			text += fmt.Sprintf(" bid %d", n)
		}
		text += "\n"
	}
	for _, s := range k.closed {
		winner, sold := k.winners[s]
		switch {
		case !sold:
			text += "passed " + s + "\n"
		case winner == number:
			text += fmt.Sprintf("won %s for %d\n", s, k.prices[s])
		default:
			text += "sold " + s + "\n"
		}
	}
	return text
}
