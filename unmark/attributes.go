package unmark

import "unicode/utf8"

func (t *Tokenizer) lookInAttr(c rune) verdict {
	switch {
	case isBlank(c):
		return taken
	case c == '/', c == '>', c == theEnd:
		return t.again(inAfter)
	case c == '=':
		t.wrong("equals")
		t.tag.newAttribute()
		t.addToName('=')
		return t.to(inName)
	}
	t.tag.newAttribute()
	return t.again(inName)
}

func (t *Tokenizer) lookInName(c rune) verdict {
	switch {
	case isBlank(c), c == '/', c == '>', c == theEnd:
		t.endName()
		return t.again(inAfter)
	case c == '=':
		t.endName()
		return t.to(inEquals)
	case c == '"', c == '\'', c == '<':
		t.wrong("sign")
	}
	t.addToName(low(t.withoutNul(c)))
	return taken
}

func (t *Tokenizer) lookInAfter(c rune) verdict {
	switch {
	case isBlank(c):
		return taken
	case c == '/':
		return t.to(inSelf)
	case c == '=':
		return t.to(inEquals)
	case c == '>':
		return t.tellTag()
	case c == theEnd:
		return t.dropTag()
	}
	t.tag.newAttribute()
	return t.again(inName)
}

func (t *Tokenizer) lookInEquals(c rune) verdict {
	switch {
	case isBlank(c):
		return taken
	case c == '"':
		return t.to(inDouble)
	case c == '\'':
		return t.to(inSingle)
	case c == '>':
		t.wrong("no-value")
		return t.tellTag()
	}
	return t.again(inPlain)
}

// lookInQuotes is the state DOUBLE or SINGLE, as quote is.
func (t *Tokenizer) lookInQuotes(c, quote rune) verdict {
	switch c {
	case quote:
		return t.to(inValue)
	case '&':
		return t.toReference()
	case theEnd:
		return t.dropTag()
	}
	t.addToValue(t.withoutNul(c))
	return taken
}

func (t *Tokenizer) lookInPlain(c rune) verdict {
	switch {
	case isBlank(c):
		return t.to(inAttr)
	case c == '&':
		return t.toReference()
	case c == '>':
		return t.tellTag()
	case c == theEnd:
		return t.dropTag()
	case c == '"', c == '\'', c == '<', c == '=', c == '`':
		t.wrong("sign")
	}
	t.addToValue(t.withoutNul(c))
	return taken
}

func (t *Tokenizer) lookInValue(c rune) verdict {
	switch {
	case isBlank(c):
		return t.to(inAttr)
	case c == '/':
		return t.to(inSelf)
	case c == '>':
		return t.tellTag()
	case c == theEnd:
		return t.dropTag()
	}
	t.wrong("no-blank")
	return t.again(inAttr)
}

func (t *Tokenizer) addToName(c rune) {
	a := t.tag.lastAttribute()
	a.name = utf8.AppendRune(a.name, c)
}

// addToValue leaves the value of an attribute that is dropped empty, since
// nobody asks for it.
func (t *Tokenizer) addToValue(c rune) {
	a := t.tag.lastAttribute()
	if !a.twice {
		a.value = utf8.AppendRune(a.value, c)
	}
}

// endName looks, at what leads out of the name, whether an earlier attribute has it.
func (t *Tokenizer) endName() {
	a := t.tag.lastAttribute()
	if !t.tag.nameIsNew(string(a.name)) {
		t.wrong("twice")
		a.twice = true
	}
}
