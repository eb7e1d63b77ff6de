package haze

import (
	"strings"
	"testing"
	"unsafe"

	"haze/api"
)

func TestP4NoPlayer(t *testing.T) {
	w := begin(t, field())
	before := whole(w)
	for _, p := range []int{-1, 2, 3, 4, most, least} {
		order(t, w, p, api.ErrArg, "a go", "b go", "nonsense", "", "bid x 5", "bid x 01")
	}
	if whole(w) != before {
		t.Error("an order that was refused changed the world")
	}
}

func TestP4NoOrder(t *testing.T) {
	w := begin(t, field())
	order(t, w, 0, api.OK, "a left")
	before := whole(w)
	order(t, w, 0, api.ErrText, "", " ", "a", "a dance", "a  go", "A go", "a build", "bid x 01", "bid x 100001", "a go ", " a go", "a go b", "a build b c", "a build abcdefg", "a build \xce", "\xff go",
		"b dance", "b  go", strings.Repeat("a ", 1000000), strings.Repeat("α", 1000000))
	if whole(w) != before {
		t.Error("an order that was refused changed the world")
	}
}

func TestP4NoName(t *testing.T) {
	w := begin(t, field())
	order(t, w, 0, api.OK, "a left")
	before := whole(w)
	order(t, w, 0, api.ErrName, "b go", "aa go", "α go", "b build c", "b call b", "b build a", "bid go", "bid build c", "bid x 5", "bid x 0", "bid a 5", "bid build 5", "bid call 0", "bid x 100000")
	if whole(w) != before {
		t.Error("an order that was refused changed the world")
	}
}

// The names of one player are not those of another.
func TestP4OthersNames(t *testing.T) {
	w := begin(t, field())
	obey(t, w, 0, "a build b")
	order(t, w, 1, api.ErrName, "b go")
	order(t, w, 0, api.OK, "b go")
	obey(t, w, 1, "a call c")
	order(t, w, 1, api.ErrName, "a go")
	order(t, w, 0, api.ErrName, "c go")
	order(t, w, 0, api.OK, "a go")
}

func TestP4UnitCalledBid(t *testing.T) {
	w := begin(t, field())
	obey(t, w, 0, "a call bid", "bid go", "bid left", "bid build c")
	units(t, w, 0, "bid 1 0 n cargo 0", "c 1 1 n cargo 0")
	order(t, w, 0, api.ErrName, "bid x 5", "bid bid 5", "bid build 5", "bid go 5")
	order(t, w, 0, api.ErrText, "bid x 05", "bid x y", "bid go c")
}

// An order waits for the Tick; the last one counts.
func TestP4Instead(t *testing.T) {
	w := begin(t, field())
	order(t, w, 0, api.OK, "a go", "a left", "a build b", "a back")
	units(t, w, 0, "a 0 0 e cargo 0")
	money(t, w, 0, 100)
	order(t, w, 0, api.ErrText, "a dance")
	order(t, w, 0, api.ErrName, "b go")
	tick(t, w)
	units(t, w, 0, "a 0 0 w cargo 0")
	money(t, w, 0, 100)
}

// Any unit has an order of its own.
func TestP4EachUnit(t *testing.T) {
	w := begin(t, field())
	obey(t, w, 0, "a build b")
	order(t, w, 0, api.OK, "a left", "b go")
	order(t, w, 1, api.OK, "a right")
	tick(t, w)
	units(t, w, 0, "a 0 0 n cargo 0", "b 2 0 e cargo 0")
	units(t, w, 1, "a 4 3 s cargo 0")
}

// The bytes behind a text may change when the call has answered.
func TestP2TextNotKept(t *testing.T) {
	for _, verb := range []string{"build", "call"} {
		w := begin(t, field())
		bytes := []byte("a " + verb + " bcd")
		order(t, w, 0, api.OK, unsafe.String(&bytes[0], len(bytes)))
		copy(bytes, strings.Repeat("Z", len(bytes)))
		tick(t, w)
		order(t, w, 0, api.OK, "bcd go")
		copy(bytes, strings.Repeat("Y", len(bytes)))
		order(t, w, 0, api.OK, "bcd left")
	}
}
