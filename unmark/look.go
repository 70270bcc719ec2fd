package unmark

import "unicode/utf8"

// state is one of the states of DOC.md's table.
type state int

const (
	inData state = iota
	inTitle
	inRaw
	inOpen
	inClose
	inTag
	inAttr
	inName
	inAfter
	inEquals
	inDouble
	inSingle
	inPlain
	inValue
	inSelf
	inBogus
	inDecl
)

// verdict is what a state says of the code point that it has looked at.
type verdict int

const (
	taken verdict = iota
	again
)

// lookAtNext looks at the next code point.
func (t *Tokenizer) lookAtNext(c rune) {
	t.look(c)
	t.place++
}

// look shows c, a code point or the end, to one state behind the other, till
// one of them has taken it.
func (t *Tokenizer) look(c rune) {
looking:
	for {
		switch t.lookOnce(c) {
		case again:
			continue looking
		case taken:
			break looking
		}
	}
}

// lookOnce shows c to the state that it is in now.
func (t *Tokenizer) lookOnce(c rune) verdict {
	switch t.state {
	case inOpen:
		return t.lookInOpen(c)
	case inClose:
		return t.lookInClose(c)
	case inTag:
		return t.lookInTag(c)
	case inAttr:
		return t.lookInAttr(c)
	case inName:
		return t.lookInName(c)
	case inAfter:
		return t.lookInAfter(c)
	case inEquals:
		return t.lookInEquals(c)
	case inDouble:
		return t.lookInQuotes(c, '"')
	case inSingle:
		return t.lookInQuotes(c, '\'')
	case inPlain:
		return t.lookInPlain(c)
	case inValue:
		return t.lookInValue(c)
	case inSelf:
		return t.lookInSelf(c)
	case inBogus:
		return t.lookInBogus(c)
	case inDecl:
		return t.lookInDecl(c)
	}
	return t.lookInData(c) // TITLE and RAW, too, till they have lines of their own
}

// to goes on in the state s with the next code point.
func (t *Tokenizer) to(s state) verdict {
	t.state = s
	return taken
}

// again looks at the same code point in the state s.
func (t *Tokenizer) again(s state) verdict {
	t.state = s
	return again
}

// wrong tells an error at the code point that is looked at.
func (t *Tokenizer) wrong(name string) {
	t.told = append(t.told, Token{Kind: Wrong, Name: name, At: t.place})
}

// tell tells a token of a kind but Wrong, and the text ahead of it, which it ends.
func (t *Tokenizer) tell(x Token) {
	if len(t.text) > 0 {
		t.told = append(t.told, Token{Kind: Chars, Text: string(t.text)})
		t.text = nil
	}
	t.told = append(t.told, x)
}

// withoutNul tells c, or, with an error, U+FFFD in place of NUL.
func (t *Tokenizer) withoutNul(c rune) rune {
	if c == nul {
		t.wrong("nul")
		return utf8.RuneError
	}
	return c
}

func (t *Tokenizer) lookInData(c rune) verdict {
	switch c {
	case theEnd:
		return taken
	case '<':
		return t.to(inOpen)
	case nul:
		t.wrong("nul")
	}
	t.text = utf8.AppendRune(t.text, c)
	return taken
}

func (t *Tokenizer) lookInOpen(c rune) verdict {
	switch {
	case c == '!':
		return t.to(inDecl)
	case c == '/':
		return t.to(inClose)
	case isLetter(c):
		t.tag = tag{kind: Start}
		return t.again(inTag)
	case c == '?':
		t.wrong("question")
		return t.again(inBogus)
	case c == theEnd:
		t.wrong("end-in-tag")
		t.text = append(t.text, "<"...)
		return taken
	}
	t.wrong("first")
	t.text = append(t.text, "<"...)
	return t.again(inData)
}

func (t *Tokenizer) lookInClose(c rune) verdict {
	switch {
	case isLetter(c):
		t.tag = tag{kind: End}
		return t.again(inTag)
	case c == '>':
		t.wrong("no-name")
		return t.to(inData)
	case c == theEnd:
		t.wrong("end-in-tag")
		t.text = append(t.text, "</"...)
		return taken
	}
	t.wrong("first")
	return t.again(inBogus)
}

// lookInDecl has only the last line of its state yet, so that a comment, a
// doctype and a CDATA section are read as what they would be without the others.
func (t *Tokenizer) lookInDecl(_ rune) verdict {
	t.wrong("declaration")
	return t.again(inBogus)
}

func (t *Tokenizer) lookInBogus(c rune) verdict {
	switch c {
	case '>':
		t.tellComment()
		return t.to(inData)
	case theEnd:
		t.tellComment()
		return taken
	}
	t.comment = utf8.AppendRune(t.comment, t.withoutNul(c))
	return taken
}

func (t *Tokenizer) tellComment() {
	t.tell(Token{Kind: Comment, Text: string(t.comment)})
	t.comment = nil
}
