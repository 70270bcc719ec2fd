package unmark

import "unicode/utf8"

func (t *Tokenizer) lookInData(c rune) verdict {
	switch c {
	case theEnd:
		return taken
	case '&':
		return t.toReference()
	case '<':
		return t.to(inOpen)
	case nul:
		t.wrong("nul")
	}
	t.text = utf8.AppendRune(t.text, c)
	return taken
}

// lookInRaw is the state TITLE or RAW: they part ways only at a `&`.
func (t *Tokenizer) lookInRaw(c rune) verdict {
	switch {
	case c == theEnd:
		return taken
	case c == '&' && t.state == inTitle:
		return t.toReference()
	case c == '<':
		return t.to(inLess)
	}
	t.text = utf8.AppendRune(t.text, t.withoutNul(c))
	return taken
}

// lookBehindLess shows c to the state behind a `<` in which it is.
func (t *Tokenizer) lookBehindLess(c rune) verdict {
	switch t.state {
	case inOpen:
		return t.lookInOpen(c)
	case inClose:
		return t.lookInClose(c)
	case inLess:
		return t.lookInLess(c)
	case inLessClose:
		return t.lookInLessClose(c)
	}
	return t.lookInLessName(c)
}

func (t *Tokenizer) lookInOpen(c rune) verdict {
	switch {
	case c == '!':
		return t.to(inDecl)
	case c == '/':
		return t.to(inClose)
	case isLetter(c):
		t.tag = tag{kind: Start}
		return t.again(inTag)
	case c == '?':
		t.wrong("question")
		return t.again(inBogus)
	case c == theEnd:
		t.wrong("end-in-tag")
		t.text = append(t.text, "<"...)
		return taken
	}
	t.wrong("first")
	t.text = append(t.text, "<"...)
	return t.again(inData)
}

func (t *Tokenizer) lookInClose(c rune) verdict {
	switch {
	case isLetter(c):
		t.tag = tag{kind: End}
		return t.again(inTag)
	case c == '>':
		t.wrong("no-name")
		return t.to(inData)
	case c == theEnd:
		t.wrong("end-in-tag")
		t.text = append(t.text, "</"...)
		return taken
	}
	t.wrong("first")
	return t.again(inBogus)
}

func (t *Tokenizer) lookInLess(c rune) verdict {
	if c == '/' {
		return t.to(inLessClose)
	}
	return t.backToBase("<")
}

func (t *Tokenizer) lookInLessClose(c rune) verdict {
	if isLetter(c) {
		t.tag = tag{kind: End}
		return t.again(inLessName)
	}
	return t.backToBase("</")
}

func (t *Tokenizer) lookInLessName(c rune) verdict {
	switch {
	case isLetter(c):
		t.tag.name = utf8.AppendRune(t.tag.name, low(c))
		t.tag.buffer = utf8.AppendRune(t.tag.buffer, c)
		return taken
	case (isBlank(c) || c == '/' || c == '>') && string(t.tag.name) == t.lastStart:
		return t.again(inTag)
	}
	passed := "</" + string(t.tag.buffer)
	t.tag = tag{}
	return t.backToBase(passed)
}

// backToBase makes text of what looked like the beginning of an end tag, and
// looks at the same code point in the state BASE.
func (t *Tokenizer) backToBase(passed string) verdict {
	t.text = append(t.text, passed...)
	return t.again(t.base)
}
