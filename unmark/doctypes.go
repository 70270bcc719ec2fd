package unmark

import "unicode/utf8"

// doctype is a doctype that is not told yet.
type doctype struct {
	name []byte
	odd  bool
}

// lookWithinDoctype shows c to the state of a doctype in which it is.
func (t *Tokenizer) lookWithinDoctype(c rune) verdict {
	switch t.state {
	case inKind:
		return t.lookInKind(c)
	case inKindName:
		return t.lookInKindName(c)
	case inKindEnd:
		return t.lookInKindEnd(c)
	case inKindRest:
		return t.lookInKindRest(c)
	}
	return t.lookInDoctype(c)
}

func (t *Tokenizer) lookInDoctype(c rune) verdict {
	switch {
	case isBlank(c):
		return t.to(inKind)
	case c == '>':
		return t.again(inKind)
	case c == theEnd:
		return t.cutDoctype()
	}
	t.wrong("no-blank")
	return t.again(inKind)
}

func (t *Tokenizer) lookInKind(c rune) verdict {
	switch {
	case isBlank(c):
		return taken
	case c == '>':
		t.wrong("no-name")
		t.doctype.odd = true
		return t.endDoctype()
	case c == theEnd:
		return t.cutDoctype()
	}
	t.addToKind(c)
	return t.to(inKindName)
}

func (t *Tokenizer) lookInKindName(c rune) verdict {
	switch {
	case isBlank(c):
		return t.to(inKindEnd)
	case c == '>':
		return t.endDoctype()
	case c == theEnd:
		return t.cutDoctype()
	}
	t.addToKind(c)
	return taken
}

func (t *Tokenizer) lookInKindEnd(c rune) verdict {
	switch {
	case isBlank(c):
		return taken
	case c == '>':
		return t.endDoctype()
	case c == theEnd:
		return t.cutDoctype()
	}
	t.wrong("kind")
	t.doctype.odd = true
	return t.again(inKindRest)
}

func (t *Tokenizer) lookInKindRest(c rune) verdict {
	switch c {
	case '>':
		return t.endDoctype()
	case nul:
		t.wrong("nul")
	case theEnd:
		t.tellDoctype()
	}
	return taken
}

func (t *Tokenizer) addToKind(c rune) {
	t.doctype.name = utf8.AppendRune(t.doctype.name, low(t.withoutNul(c)))
}

func (t *Tokenizer) tellDoctype() {
	t.tell(Token{Kind: Doctype, Name: string(t.doctype.name), Flag: t.doctype.odd})
	t.doctype = doctype{}
}

// endDoctype tells the doctype at the `>` that ends it.
func (t *Tokenizer) endDoctype() verdict {
	t.tellDoctype()
	return t.to(inData)
}

// cutDoctype tells the doctype, which is odd, since the end has cut it off.
func (t *Tokenizer) cutDoctype() verdict {
	t.wrong("end-in-doctype")
	t.doctype.odd = true
	t.tellDoctype()
	return taken
}
