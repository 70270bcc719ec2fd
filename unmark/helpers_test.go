package unmark

import (
	"fmt"
	"strings"
	"testing"
)

// example is a text and its tokens as spell writes them.
type example struct{ text, want string }

// spell writes tokens so that an example is easy to read: "text", <start[names
// and values], </end, !"comment", !!doctype, error@place, and . for Finish; * is
// the Flag.
func spell(tokens []Token) string {
	var words []string
	for _, x := range tokens {
		words = append(words, spellOne(x))
	}
	return strings.Join(words, " ")
}

func spellOne(x Token) string {
	flag := ""
	if x.Flag {
		flag = "*"
	}
	switch x.Kind {
	case Chars:
		return fmt.Sprintf("%q%s", x.Text, flag)
	case Start:
		return fmt.Sprintf("<%s%q%s", x.Name, x.Attrs, flag)
	case End:
		return "</" + x.Name + flag
	case Comment:
		return fmt.Sprintf("!%q%s", x.Text, flag)
	case Doctype:
		return "!!" + x.Name + flag
	case Wrong:
		return fmt.Sprintf("%s@%d%s", x.Name, x.At, flag)
	case Finish:
		return "." + flag
	}
	return fmt.Sprintf("%+v", x)
}

// wrongs writes errors as spell does: names and places in turn, with a blank behind each.
func wrongs(pairs ...any) string {
	text := ""
	for i := 0; i < len(pairs); i += 2 {
		text += fmt.Sprintf("%v@%v ", pairs[i], pairs[i+1])
	}
	return text
}

// inPieces writes the pieces, closes, and tells all tokens. It takes behind
// each call, so that an example sees a token that is told twice or is lost.
func inPieces(t *testing.T, pieces ...string) []Token {
	t.Helper()
	x := New(1 << 30)
	var all []Token
	for _, piece := range pieces {
		if err := x.Write(piece); err != nil {
			t.Errorf("P3: Write(%q) of %q: %v", piece, pieces, err)
		}
		all = append(all, x.Take()...)
	}
	if err := x.Close(); err != nil {
		t.Errorf("P3: Close behind %q: %v", pieces, err)
	}
	return append(all, x.Take()...)
}

// check holds the tokens of texts against those that are wanted, however the
// texts are cut.
func check(t *testing.T, examples []example) {
	t.Helper()
	for _, e := range examples {
		for _, pieces := range cuts(e.text) {
			tokens := inPieces(t, pieces...)
			if got := spell(tokens); got != e.want {
				t.Errorf("%q:\n got %s\nwant %s", pieces, got, e.want)
			}
			checkUnusedFields(t, tokens)
		}
	}
}

// step is a piece, the tokens that are told behind it, and how much text is held then.
type step struct {
	chunk, told string
	held        int
}

// writeSteps writes the pieces and looks behind each of them.
func writeSteps(t *testing.T, steps []step) {
	t.Helper()
	x := New(100)
	for i, s := range steps {
		if err := x.Write(s.chunk); err != nil {
			t.Errorf("P3: Write(%q): %v", s.chunk, err)
		}
		if x.Held() != s.held {
			t.Errorf("P4: behind step %d of %+v: %d held, want %d", i, steps, x.Held(), s.held)
		}
		if got := spell(x.Take()); got != s.told {
			t.Errorf("P4: behind step %d of %+v: %s, want %s", i, steps, got, s.told)
		}
		if x.Held() != s.held || len(x.Take()) != 0 {
			t.Errorf("P4: behind step %d of %+v: Take is seen by Held or by Take", i, steps)
		}
	}
}

// cuts tells the text whole, byte by byte, with an empty piece, and cut in two at each place.
func cuts(text string) [][]string {
	list := [][]string{{text}, strings.SplitAfter(text, ""), eachByte(text), {"", text, ""}}
	for i := 1; i < len(text); i++ {
		list = append(list, []string{text[:i], text[i:]})
	}
	return list
}

func eachByte(text string) []string {
	var list []string
	for i := range len(text) {
		list = append(list, text[i:i+1])
	}
	return list
}

// checkUnusedFields: fields that a kind does not use are empty.
func checkUnusedFields(t *testing.T, tokens []Token) {
	t.Helper()
	for _, x := range tokens {
		used := x
		switch x.Kind {
		case Chars, Comment:
			used.Text = ""
		case Start:
			used.Name, used.Attrs, used.Flag = "", nil, false
		case End:
			used.Name = ""
		case Doctype:
			used.Name, used.Flag = "", false
		case Wrong:
			used.Name, used.At = "", 0
		}
		if used.Name != "" || len(used.Attrs) != 0 || used.Text != "" || used.Flag || used.At != 0 {
			t.Errorf("a token has more than its kind uses: %+v", x)
		}
	}
}
