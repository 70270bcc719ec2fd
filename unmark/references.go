package unmark

import (
	"strings"
	"unicode/utf8"
)

// reference is one that is being read.
type reference struct {
	back      state  // from which it came, and to which it goes back
	come      string // what has come behind its `&`, as long as it may go to the target as it is
	sixteens  bool   // its number is written in sixteens, not in tens
	hasDigits bool
	number    rune
}

// named is a name that a reference may have, and what it means.
type named struct{ name, means string }

var names = [...]named{
	{"amp;", "&"}, {"amp", "&"}, {"AMP;", "&"}, {"AMP", "&"},
	{"lt;", "<"}, {"lt", "<"}, {"LT;", "<"}, {"LT", "<"},
	{"gt;", ">"}, {"gt", ">"},
	{"quot;", "\""}, {"quot", "\""}, {"apos;", "'"},
	{"nbsp;", "\u00a0"}, {"nbsp", "\u00a0"},
	{"copy;", "\u00a9"}, {"copy", "\u00a9"},
	{"not;", "\u00ac"}, {"not", "\u00ac"}, {"notin;", "\u2209"},
	{"hellip;", "\u2026"},
}

// findName looks for the longest name with which come begins (an empty one, if
// there is none), unless it must wait: come is the beginning of a longer name.
func findName(come string) (longest named, waits bool) {
looking:
	for _, n := range names {
		switch {
		case isPartOf(come, n.name):
			waits = true
			break looking
		case !strings.HasPrefix(come, n.name), len(n.name) < len(longest.name):
			continue looking
		}
		longest = n
	}
	return longest, waits
}

// toReference goes on behind a `&`.
func (t *Tokenizer) toReference() verdict {
	t.reference = reference{back: t.state}
	return t.to(inRef)
}

// lookWithinReference shows c to the state of a reference in which it is.
func (t *Tokenizer) lookWithinReference(c rune) verdict {
	switch t.state {
	case inRefName:
		return t.lookInRefName(c)
	case inRefUnknown:
		return t.lookInRefUnknown(c)
	case inRefHash:
		return t.lookInRefHash(c)
	case inRefNumber:
		return t.lookInRefNumber(c)
	}
	return t.lookInRef(c)
}

func (t *Tokenizer) lookInRef(c rune) verdict {
	switch {
	case isLetter(c), isDigit(c):
		return t.again(inRefName)
	case c == '#':
		t.reference.come = "#"
		return t.to(inRefHash)
	}
	return t.leaveAsItIs()
}

// lookInRefName takes c while it leads on to a name, or to a longer one.
func (t *Tokenizer) lookInRefName(c rune) verdict {
	come := t.reference.come + string(c) // at the end it has U+FFFD, which no name has
	longest, waits := findName(come)
	switch {
	case waits:
		t.reference.come = come
		return taken
	case longest.name == "":
		t.addToTarget("&" + t.reference.come)
		return t.again(inRefUnknown)
	case longest.name == come: // with its `;`, as it waits for that behind any other
		t.addToTarget(longest.means)
		return t.to(t.reference.back)
	}
	return t.endOpenName(longest, c)
}

// endOpenName ends a name without `;`. What was taken behind it, for a longer
// name that has not come, is letters, which each state puts to the target as
// they are, so only c is looked at again.
func (t *Tokenizer) endOpenName(n named, c rune) verdict {
	waited := t.reference.come[len(n.name):]
	next, _ := utf8.DecodeRuneInString(waited + string(c))
	if t.targetIsValue() && (next == '=' || isLetter(next) || isDigit(next)) {
		t.addToTarget("&" + n.name)
	} else {
		t.wrongAt("semicolon", t.place-len(waited))
		t.addToTarget(n.means)
	}
	t.addToTarget(waited)
	return t.again(t.reference.back)
}

// lookInRefUnknown takes what follows the beginning of no name.
func (t *Tokenizer) lookInRefUnknown(c rune) verdict {
	switch {
	case isLetter(c), isDigit(c):
		t.addToTarget(string(c))
		return taken
	case c == ';':
		t.wrong("unknown")
	}
	return t.again(t.reference.back)
}

// leaveAsItIs puts what has come to the target: it is no reference.
func (t *Tokenizer) leaveAsItIs() verdict {
	t.addToTarget("&" + t.reference.come)
	return t.again(t.reference.back)
}

func (t *Tokenizer) targetIsValue() bool {
	switch t.reference.back {
	case inDouble, inSingle, inPlain:
		return true
	}
	return false
}

func (t *Tokenizer) addToTarget(text string) {
	if !t.targetIsValue() {
		t.text = append(t.text, text...)
		return
	}
	for _, c := range text {
		t.addToValue(c)
	}
}
