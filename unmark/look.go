package unmark

import "unicode/utf8"

// state is one of the states of DOC.md's table.
type state int

const (
	inData state = iota
	inTitle
	inRaw

	inOpen
	inClose
	inLess
	inLessClose
	inLessName

	inTag
	inAttr
	inName
	inAfter
	inEquals
	inDouble
	inSingle
	inPlain
	inValue
	inSelf

	inDecl
	inBogus
	inBegin
	inBeginDash
	inComment
	inDash
	inDashes
	inBang

	inDoctype
	inKind
	inKindName
	inKindEnd
	inKindRest

	inRef
	inRefName    // a name, or the beginning of one
	inRefUnknown // no name
	inRefHash
	inRefNumber
)

// verdict is what a state says of the code point that it has looked at.
type verdict int

const (
	taken verdict = iota
	again
)

// lookAtNext looks at the next code point.
func (t *Tokenizer) lookAtNext(c rune) {
	t.look(c)
	t.place++
}

// look shows c, a code point or the end, to one state behind the other, till
// one of them has taken it.
func (t *Tokenizer) look(c rune) {
looking:
	for {
		switch t.lookOnce(c) {
		case again:
			continue looking
		case taken:
			break looking
		}
	}
}

// lookOnce shows c to the state that it is in now.
func (t *Tokenizer) lookOnce(c rune) verdict {
	switch t.state {
	case inTitle, inRaw:
		return t.lookInRaw(c)
	case inOpen, inClose, inLess, inLessClose, inLessName:
		return t.lookBehindLess(c)
	case inTag, inAttr, inName, inAfter, inEquals, inDouble, inSingle, inPlain, inValue, inSelf:
		return t.lookWithinTag(c)
	case inDecl, inBogus, inBegin, inBeginDash, inComment, inDash, inDashes, inBang:
		return t.lookWithinComment(c)
	case inDoctype, inKind, inKindName, inKindEnd, inKindRest:
		return t.lookWithinDoctype(c)
	case inRef, inRefName, inRefUnknown, inRefHash, inRefNumber:
		return t.lookWithinReference(c)
	}
	return t.lookInData(c)
}

// to goes on in the state s with the next code point.
func (t *Tokenizer) to(s state) verdict {
	t.state = s
	return taken
}

// again looks at the same code point in the state s.
func (t *Tokenizer) again(s state) verdict {
	t.state = s
	return again
}

// wrong tells an error at the code point that is looked at.
func (t *Tokenizer) wrong(name string) {
	t.wrongAt(name, t.place)
}

func (t *Tokenizer) wrongAt(name string, place int) {
	t.told = append(t.told, Token{Kind: Wrong, Name: name, At: place})
}

// tell tells a token of a kind but Wrong, and the text ahead of it, which it ends.
func (t *Tokenizer) tell(x Token) {
	t.tellText()
	t.told = append(t.told, x)
}

// tellText tells the text that is held, if there is any.
func (t *Tokenizer) tellText() {
	if len(t.text) == 0 {
		return
	}
	t.told = append(t.told, Token{Kind: Chars, Text: string(t.text)})
	t.text = nil
}

// withoutNul tells c, or, with an error, U+FFFD in place of NUL.
func (t *Tokenizer) withoutNul(c rune) rune {
	if c == nul {
		t.wrong("nul")
		return utf8.RuneError
	}
	return c
}
