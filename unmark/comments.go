package unmark

import (
	"strings"
	"unicode/utf8"
)

// The three that DECL waits for; great letters of the second count as small ones.
const (
	dashesWord  = "--"
	doctypeWord = "doctype"
	cdataWord   = "[CDATA["
)

// lookWithinComment shows c to the state of a declaration or comment in which it is.
func (t *Tokenizer) lookWithinComment(c rune) verdict {
	switch t.state {
	case inDecl:
		return t.lookInDecl(c)
	case inBogus:
		return t.lookInBogus(c)
	case inBegin:
		return t.lookInBegin(c)
	case inBeginDash:
		return t.lookInBeginDash(c)
	case inDash:
		return t.lookInDash(c)
	case inDashes:
		return t.lookInDashes(c)
	case inBang:
		return t.lookInBang(c)
	}
	return t.lookInComment(c)
}

// lookInDecl takes c while it leads on to one of the three. Once it does not,
// what was taken has nothing in it that BOGUS would not put to the comment as
// it is, so only c is looked at again.
func (t *Tokenizer) lookInDecl(c rune) verdict {
	before, first := t.declared, t.place-len(t.declared)
	come := before + string(c) // at the end no beginning of the three, as it has U+FFFD then
	if mayBecomeDeclaration(come) {
		t.declared = come
		return taken
	}
	t.declared = ""
	switch {
	case come == dashesWord:
		return t.to(inBegin)
	case strings.Map(low, come) == doctypeWord:
		return t.to(inDoctype)
	case come == cdataWord:
		t.wrongAt("cdata", first)
		t.addToComment(come)
		return t.to(inBogus)
	}
	t.wrongAt("declaration", first)
	t.addToComment(before)
	return t.again(inBogus)
}

// mayBecomeDeclaration tells whether come is the beginning of one of the
// three, and not all of it.
func mayBecomeDeclaration(come string) bool {
	return isPartOf(come, dashesWord) || isPartOf(strings.Map(low, come), doctypeWord) || isPartOf(come, cdataWord)
}

func isPartOf(begun, whole string) bool {
	return begun != whole && strings.HasPrefix(whole, begun)
}

func (t *Tokenizer) lookInBogus(c rune) verdict {
	switch c {
	case '>':
		return t.endComment()
	case theEnd:
		t.tellComment()
		return taken
	}
	t.comment = utf8.AppendRune(t.comment, t.withoutNul(c))
	return taken
}

func (t *Tokenizer) lookInBegin(c rune) verdict {
	switch c {
	case '-':
		return t.to(inBeginDash)
	case '>':
		t.wrong("abrupt")
		return t.endComment()
	}
	return t.again(inComment)
}

// lookInBeginDash has one line that DASH has not; the others are the same.
func (t *Tokenizer) lookInBeginDash(c rune) verdict {
	if c == '>' {
		t.wrong("abrupt")
		return t.endComment()
	}
	return t.lookInDash(c)
}

func (t *Tokenizer) lookInComment(c rune) verdict {
	switch c {
	case '-':
		return t.to(inDash)
	case theEnd:
		return t.cutComment()
	}
	t.comment = utf8.AppendRune(t.comment, t.withoutNul(c))
	return taken
}

func (t *Tokenizer) lookInDash(c rune) verdict {
	switch c {
	case '-':
		return t.to(inDashes)
	case theEnd:
		return t.cutComment()
	}
	t.addToComment("-")
	return t.again(inComment)
}

func (t *Tokenizer) lookInDashes(c rune) verdict {
	switch c {
	case '>':
		return t.endComment()
	case '!':
		return t.to(inBang)
	case '-':
		t.addToComment("-")
		return taken
	case theEnd:
		return t.cutComment()
	}
	t.addToComment("--")
	return t.again(inComment)
}

func (t *Tokenizer) lookInBang(c rune) verdict {
	switch c {
	case '-':
		t.addToComment("--!")
		return t.to(inDash)
	case '>':
		t.wrong("bang")
		return t.endComment()
	case theEnd:
		return t.cutComment()
	}
	t.addToComment("--!")
	return t.again(inComment)
}

func (t *Tokenizer) addToComment(text string) {
	t.comment = append(t.comment, text...)
}

func (t *Tokenizer) tellComment() {
	t.tell(Token{Kind: Comment, Text: string(t.comment)})
	t.comment = nil
}

// endComment tells the comment at the `>` that ends it.
func (t *Tokenizer) endComment() verdict {
	t.tellComment()
	return t.to(inData)
}

// cutComment tells the comment, which the end has cut off.
func (t *Tokenizer) cutComment() verdict {
	t.wrong("end-in-comment")
	t.tellComment()
	return taken
}
