package unmark

import (
	"testing"
	"unicode/utf8"
)

func TestWellFormedBytes(t *testing.T) {
	check(t, []example{
		{"", `.`},
		{"a", `"a" .`},
		{"\u007f\u0080\u07ff\u0800", "\"\\x7f\\u0080\u07ff\u0800\" ."},
		{"\ud7ff\ue000\uffff", `"\ud7ff\ue000\uffff" .`},
		{"\U00010000\U0010ffff", "\"\U00010000\\U0010ffff\" ."},
		{"\ufffd", "\"\ufffd\" ."},
		{"\ufeffa", "\"\\ufeffa\" ."},
	})
}

func TestBytesThatAreNotWellFormed(t *testing.T) {
	check(t, []example{
		{"\x80", "\"\ufffd\" ."},
		{"\xbf\xbf", "\"\ufffd\ufffd\" ."},
		{"\xff\xfe", "\"\ufffd\ufffd\" ."},
		{"\xc0\x80", "\"\ufffd\ufffd\" ."},
		{"\xc1\xbf", "\"\ufffd\ufffd\" ."},
		{"\xe0\x9f\xbf", "\"\ufffd\ufffd\ufffd\" ."},
		{"\xf0\x8f\xbf\xbf", "\"\ufffd\ufffd\ufffd\ufffd\" ."},
		{"\xed\xa0\x80", "\"\ufffd\ufffd\ufffd\" ."},
		{"\xf4\x90\x80\x80", "\"\ufffd\ufffd\ufffd\ufffd\" ."},
		{"\xf5\x80\x80\x80", "\"\ufffd\ufffd\ufffd\ufffd\" ."},
		{"\xc3", "\"\ufffd\" ."},
		{"\xe4\xb8", "\"\ufffd\" ."},
		{"\xf0\x9f\x98", "\"\ufffd\" ."},
		{"\xe4\xb8a", "\"\ufffda\" ."},
		{"\xf0\x9f\x98a", "\"\ufffda\" ."},
		{"\xf0\x9f\xe4\xb8\x96", "\"\ufffd\u4e16\" ."},
		{"\xc3\xc3\xc3", "\"\ufffd\ufffd\ufffd\" ."},
		{"\xe4\xb8<b>", "\"\ufffd\" <b[] ."},
	})
}

func TestBrokenBytesInTags(t *testing.T) {
	check(t, []example{
		{"<a\xff\xc3 b\xff=\xe4\xb8 c='\xf0\x9f'>", "<a\ufffd\ufffd[\"b\ufffd\" \"\ufffd\" \"c\" \"\ufffd\"] ."},
		{"<\xff", "first@1 \"<\ufffd\" ."},
		{"<\xc3", "first@1 \"<\ufffd\" ."},
		{"<a\xc3", `end-in-tag@3 .`},
	})
}

func TestLineEnds(t *testing.T) {
	check(t, []example{
		{"\r", `"\n" .`},
		{"\n", `"\n" .`},
		{"\r\n", `"\n" .`},
		{"\n\r", `"\n\n" .`},
		{"\r\r", `"\n\n" .`},
		{"\r\n\n", `"\n\n" .`},
		{"\r\r\n\r\n\r", `"\n\n\n\n" .`},
		{"\ra\n", `"\na\n" .`},
		{"\r\x00\n", `nul@1 "\n\x00\n" .`},
		{"\r\xff\n", "\"\\n\ufffd\\n\" ."},
		{"\r\xc3\n", "\"\\n\ufffd\\n\" ."},
		{"\xc3\r\n", "\"\ufffd\\n\" ."},
		{"<a\r\nb='\r\n\r'>", `<a["b" "\n\n"] .`},
		{"<a b=c\r\nd>", `<a["b" "c" "d" ""] .`},
	})
}

// Places count code points, after line ends have become one each.
func TestPlaces(t *testing.T) {
	check(t, []example{
		{"\x00", `nul@0 "\x00" .`},
		{"\u00e9\u4e16\U0001f600\x00", "nul@3 \"\u00e9\u4e16\U0001f600\\x00\" ."},
		{"\r\n\r\n\x00\r\r\x00", `nul@2 nul@5 "\n\n\x00\n\n\x00" .`},
		{"\xf0\x9f\x98\xff\x00", "nul@2 \"\ufffd\ufffd\\x00\" ."},
		{"\u00e9\r\n\xe4\xb8<", "end-in-tag@4 \"\u00e9\\n\ufffd<\" ."},
	})
}

// A code point that is not whole waits; a U+000D does not.
func TestPointsThatWait(t *testing.T) {
	for _, c := range []struct {
		pieces []string
		held   []int
	}{
		{[]string{"\xf0", "\x9f", "\x98", "\x80"}, []int{0, 0, 0, 1}},
		{[]string{"\xf0\x9f", "\x98", "a"}, []int{0, 0, 2}},
		{[]string{"\xe4", "\xe4", "\xb8", "\x96"}, []int{0, 1, 1, 2}},
		{[]string{"\xe0", "\x9f"}, []int{0, 2}},
		{[]string{"\xed", "\xa0"}, []int{0, 2}},
		{[]string{"\xf4", "\x90"}, []int{0, 2}},
		{[]string{"\xc0", "\xff"}, []int{1, 2}},
		{[]string{"\r", "\n", "\n"}, []int{1, 1, 2}},
		{[]string{"\r", "", "\n", "a"}, []int{1, 1, 1, 2}},
		{[]string{"\r", "\r", "\n"}, []int{1, 2, 2}},
	} {
		x := New(100)
		for i, piece := range c.pieces {
			if err := x.Write(piece); err != nil || x.Held() != c.held[i] {
				t.Errorf("P4: %q, behind piece %d: %v, %d held, want %d", c.pieces, i, err, x.Held(), c.held[i])
			}
		}
	}
}

// The code points of all texts of up to four bytes that stand at a bound of
// UTF-8 are held against the document's words, taken literally.
func TestPointsAsTheDocumentSaysThem(t *testing.T) {
	beginnings := beginningsOfPoints()
	bounds := []byte("\x00A\x7f\x80\x8f\x90\x9f\xa0\xbf\xc0\xc1\xc2\xdf\xe0\xe1\xec\xed\xee\xef\xf0\xf1\xf3\xf4\xf5\xff\r\n")
	var try func(text string)
	try = func(text string) {
		var p points
		var got []rune
		look := func(c rune) { got = append(got, c) }
		half := len(text) / 2
		p.read(text[:half], look)
		p.read(text[half:], look)
		p.end(look)
		if want := literalPoints(text, beginnings); string(got) != string(want) {
			t.Errorf("%q: %q, want %q", text, string(got), string(want))
		}
		if len(text) == 4 || t.Failed() {
			return
		}
		for _, b := range bounds {
			try(text + string([]byte{b}))
		}
	}
	try("")
}

// beginningsOfPoints: all that is the beginning of a well-formed code point, but not all of one.
func beginningsOfPoints() map[string]bool {
	set := map[string]bool{}
	for c := rune(0x80); c <= utf8.MaxRune; c++ {
		if utf8.ValidRune(c) {
			text := string(c)
			for i := 1; i < len(text); i++ {
				set[text[:i]] = true
			}
		}
	}
	return set
}

func literalPoints(text string, beginnings map[string]bool) []rune {
	var raw []rune
	for text != "" {
		size, c := 1, utf8.RuneError
		for i := 1; i <= len(text) && i <= 4; i++ {
			if beginnings[text[:i]] {
				size = i
			} else if utf8.ValidString(text[:i]) {
				c, size = []rune(text[:i])[0], i
				break
			}
		}
		raw = append(raw, c)
		text = text[size:]
	}
	var points []rune
	for i, c := range raw {
		switch {
		case c == '\n' && i > 0 && raw[i-1] == '\r':
		case c == '\r':
			points = append(points, '\n')
		default:
			points = append(points, c)
		}
	}
	return points
}
