// Package orders reads the texts by which players say what they want.
package orders

import "haze/api"

// Kind is what an order asks for.
type Kind int

// The kinds of orders. None is that of no order at all.
const (
	None Kind = iota
	Go
	Left
	Right
	Back
	Dig
	Sell
	Build
	Call
	Bid
)

// Order is what a text asks for: of the unit called Unit, or, if it is a Bid, of no unit.
type Order struct {
	Kind   Kind
	Unit   string
	Name   string // the new name of a Build or a Call; the lot of a Bid
	Number int    // of a Bid
}

// mostWords is how many words the longest order has.
const mostWords = 3

// Parse reads an order, and answers false if the text is none. The names in the answer are pieces of the text.
func Parse(text string) (Order, bool) {
	list := words(text)
	switch len(list) {
	case 2:
		return checked(Order{Kind: plainKind(list[1]), Unit: list[0]})
	case 3:
		// No name is a number: so a text is never both, a bid and an order for a unit called bid.
		if n, ok := number(list[2]); ok && list[0] == "bid" && IsName(list[1]) {
			return Order{Kind: Bid, Name: list[1], Number: n}, true
		}
		if !IsName(list[2]) {
			return Order{}, false
		}
		return checked(Order{Kind: namingKind(list[1]), Unit: list[0], Name: list[2]})
	}
	return Order{}, false
}

// checked gives the order for a unit back if it is one.
func checked(o Order) (Order, bool) {
	if o.Kind == None || !IsName(o.Unit) {
		return Order{}, false
	}
	return o, true
}

// plainKind is the kind of an order of two words.
func plainKind(verb string) Kind {
	switch verb {
	case "go":
		return Go
	case "left":
		return Left
	case "right":
		return Right
	case "back":
		return Back
	case "dig":
		return Dig
	case "sell":
		return Sell
	}
	return None
}

// namingKind is the kind of an order that ends with a name.
func namingKind(verb string) Kind {
	switch verb {
	case "build":
		return Build
	case "call":
		return Call
	}
	return None
}

// words cuts a text at each blank, so that a blank too many leaves an empty word, which is no name. It gives nil where there are more words than an order has: a long text is not cut to its end.
func words(text string) []string {
	list := make([]string, 0, mostWords)
	begin := 0
	for i, r := range text {
		if r != ' ' {
			continue
		}
		list = append(list, text[begin:i])
		if len(list) == mostWords {
			return nil
		}
		begin = i + 1
	}
	return append(list, text[begin:])
}

// IsName tells whether a word is a name.
func IsName(word string) bool {
	count := 0
	for _, r := range word {
		count++
		if count > api.MaxName || !isSmallLetter(r) {
			return false
		}
	}
	return count > 0
}

// isSmallLetter tells whether a name may have this rune. A byte that is part of no rune comes as U+FFFD, which is none.
func isSmallLetter(r rune) bool {
	return 'a' <= r && r <= 'z' || 'α' <= r && r <= 'ω'
}

// number reads a number, and answers false if the word is none.
func number(word string) (int, bool) {
	if word == "" || word[0] == '0' && word != "0" {
		return 0, false
	}
	n := 0
	for _, r := range word {
		if r < '0' || r > '9' {
			return 0, false
		}
		n = n*10 + int(r-'0')
		// To go on could only make it greater, until it wraps round.
		if n > api.MaxBid {
			return 0, false
		}
	}
	return n, true
}
