package unmark

import (
	"strings"
	"unicode/utf8"
)

// points makes code points of bytes that come in pieces.
type points struct {
	begun        string // the beginning of a code point whose other bytes may still come
	behindReturn bool   // U+000D came last and was told as U+000A, so a U+000A now is part of it
}

// read hands all code points that are whole by now to look.
func (p *points) read(chunk string, look func(rune)) {
	rest := p.begun + chunk
	for {
		c, size := firstPoint(rest)
		if size == 0 {
			break
		}
		rest = rest[size:]
		p.pass(c, look)
	}
	p.begun = strings.Clone(rest) // a piece of chunk would keep all of it in memory
}

// end hands what was begun to look: no more bytes come that could make it whole.
func (p *points) end(look func(rune)) {
	if p.begun == "" {
		return
	}
	p.begun = ""
	p.pass(utf8.RuneError, look)
}

// pass hands c to look, with one U+000A in place of each end of a line.
func (p *points) pass(c rune, look func(rune)) {
	partOfReturn := c == '\n' && p.behindReturn
	p.behindReturn = c == '\r'
	switch {
	case partOfReturn:
	case c == '\r':
		look('\n')
	default:
		look(c)
	}
}

// firstPoint tells the code point that text begins with and its number of
// bytes, which is 0 if more bytes must come first.
func firstPoint(text string) (rune, int) {
	if !utf8.FullRuneInString(text) {
		return 0, 0
	}
	c, size := utf8.DecodeRuneInString(text)
	if c == utf8.RuneError && size == 1 {
		return c, brokenSize(text)
	}
	return c, size
}

// brokenSize tells how many bytes at the beginning of text, which is not
// well-formed there, are read as one U+FFFD. The library's decoder would take
// them one by one, so its look for whole code points is asked instead: what it
// does not call whole is the beginning of something well-formed.
func brokenSize(text string) int {
	size := 1
	for size < len(text) && !utf8.FullRuneInString(text[:size+1]) {
		size++
	}
	return size
}
