package orders

import (
	"strings"
	"testing"
)

func TestParse(t *testing.T) {
	for text, want := range map[string]Order{
		"a go":                 {Kind: Go, Unit: "a"},
		"ab left":              {Kind: Left, Unit: "ab"},
		"β right":              {Kind: Right, Unit: "β"},
		"aβ back":              {Kind: Back, Unit: "aβ"},
		"zzzzzz dig":           {Kind: Dig, Unit: "zzzzzz"},
		"ωωωωωω sell":          {Kind: Sell, Unit: "ωωωωωω"},
		"a build b":            {Kind: Build, Unit: "a", Name: "b"},
		"a build ωωωωωω":       {Kind: Build, Unit: "a", Name: "ωωωωωω"},
		"a call a":             {Kind: Call, Unit: "a", Name: "a"},
		"go go":                {Kind: Go, Unit: "go"},
		"build build build":    {Kind: Build, Unit: "build", Name: "build"},
		"bid go":               {Kind: Go, Unit: "bid"},
		"bid build c":          {Kind: Build, Unit: "bid", Name: "c"},
		"bid call bid":         {Kind: Call, Unit: "bid", Name: "bid"},
		"bid x 5":              {Kind: Bid, Name: "x", Number: 5},
		"bid x 0":              {Kind: Bid, Name: "x"},
		"bid bid 10":           {Kind: Bid, Name: "bid", Number: 10},
		"bid build 5":          {Kind: Bid, Name: "build", Number: 5},
		"bid call 0":           {Kind: Bid, Name: "call"},
		"bid αβγδεζ 99999":     {Kind: Bid, Name: "αβγδεζ", Number: 99999},
		"bid abcdef 100000":    {Kind: Bid, Name: "abcdef", Number: 100000},
		"a build \u03b1":       {Kind: Build, Unit: "a", Name: "\u03b1"},
		"a build \u03c2\u03c9": {Kind: Build, Unit: "a", Name: "\u03c2\u03c9"},
	} {
		if got, ok := Parse(text); got != want || !ok {
			t.Errorf("Parse(%q) = %+v, %v, want %+v", text, got, ok, want)
		}
	}
}

func TestParseRefuses(t *testing.T) {
	for _, text := range []string{
		"", " ", "  ", "a", "go", "bid", "a ", " a", " go", "a  go", " a go", "a go ", "a go\n", "\na go", "a\tgo", "a\u00a0go", "ago",
		"A go", "a Go", "a GO", "a dance", "a bid", "a goo", "a g", "1 go", "a1 go", "a- go", "abcdefg go", "αβγδεζη go",
		"a go a", "a left 1", "a dig dig", "a sell ", "a build", "a call", "a build ", "a call ", "a build  b", "a  build b", "a build b ",
		"a build B", "a build 1", "a build abcdefg", "a call αβγδεζη", "a build b c", "a call b c d", "A build b", " build b",
		"a build `", "a build {", "a build \u03b0", "a build \u03ca", "a build Α", "a build é", "a build \u0430", "a build 語",
		"a build \xce", "a build \xb1", "a build b\xff", "\xff go", "\xce go", "a build \ufffd", "a build \x00", "a\x00 go", "a build e\u0301",
		"bid x", "bid x ", "bid  5", "bid x  5", "bid x 5 ", " bid x 5", "bid x 01", "bid x 00", "bid x -1", "bid x -0", "bid x +1", "bid x 1.0", "bid x 1e3", "bid x 0x1", "bid x 1_0",
		"bid x 100001", "bid x 999999", "bid x 1000000", "bid x 0000001", "bid x 18446744073709551617", "bid x five", "bid x y", "bid x 5 6", "bid X 5", "bid abcdefg 5", "bid 5 5", "bid x 5a", "bid x ٣", "bid x \xff",
		"Bid x 5", "a x 5", "a build 5", "bidd x 5",
		strings.Repeat("a ", 1000000), strings.Repeat("a", 1000000) + " go", "a " + strings.Repeat("g", 1000000), "bid x " + strings.Repeat("1", 1000000), strings.Repeat(" ", 1000000), strings.Repeat("\xff", 1000000),
	} {
		if got, ok := Parse(text); got != (Order{}) || ok {
			if len(text) > 40 {
				text = text[:40] + ".."
			}
			t.Errorf("Parse(%q) = %+v, %v", text, got, ok)
		}
	}
}

// TestLetters holds each rune against the two rows of the document.
func TestLetters(t *testing.T) {
	for r := rune(0); r < 0x2000; r++ {
		if r == ' ' {
			continue
		}
		want := r >= 0x61 && r <= 0x7a || r >= 0x3b1 && r <= 0x3c9
		if _, ok := Parse("a build " + string(r)); ok != want {
			t.Errorf("a unit called %U: %v", r, ok)
		}
		if _, ok := Parse("bid " + string(r) + " 1"); ok != want {
			t.Errorf("a lot called %U: %v", r, ok)
		}
	}
}

func TestLength(t *testing.T) {
	for _, letter := range []string{"a", "β"} {
		for n := range 10 {
			_, ok := Parse(strings.Repeat(letter, n) + " go")
			if want := n >= 1 && n <= 6; ok != want {
				t.Errorf("a name of %d %s: %v", n, letter, ok)
			}
		}
	}
}

func TestIsName(t *testing.T) {
	for _, s := range []string{"a", "z", "abcdef", "α", "ω", "αβγδεζ", "aβ", "bid", "go"} {
		if !IsName(s) {
			t.Errorf("%q is no name", s)
		}
	}
	for _, s := range []string{"", " ", "a ", "a b", "A", "1", "a1", "abcdefg", "αβγδεζη", "\xce", "a\xff", "\ufffd", "é", strings.Repeat("a", 1000000)} {
		if IsName(s) {
			t.Errorf("%.40q is a name", s)
		}
	}
}

// FuzzParse: what is read is what was written, word by word.
func FuzzParse(f *testing.F) {
	for _, s := range []string{"a go", "a build β", "bid x 5", "bid build c", "a  go", "\xff go", "bid x 01"} {
		f.Add(s)
	}
	f.Fuzz(func(t *testing.T, text string) {
		o, ok := Parse(text)
		if !ok {
			if o != (Order{}) {
				t.Errorf("%q is no order, but: %+v", text, o)
			}
			return
		}
		list := strings.Split(text, " ")
		switch o.Kind {
		case Bid:
			if len(list) != 3 || list[0] != "bid" || list[1] != o.Name || o.Unit != "" || o.Number < 0 || o.Number > 100000 {
				t.Errorf("%q: %+v", text, o)
			}
		case Build, Call:
			if len(list) != 3 || list[0] != o.Unit || list[2] != o.Name || o.Number != 0 {
				t.Errorf("%q: %+v", text, o)
			}
		default:
			if len(list) != 2 || list[0] != o.Unit || o.Name != "" || o.Number != 0 {
				t.Errorf("%q: %+v", text, o)
			}
		}
	})
}
