// Package unmark: marked-up text, taken apart while it comes in: see DOC.md.
package unmark

import (
	"errors"
	"strconv"
	"unicode/utf8"
)

// The kinds of tokens.
const (
	Chars   = 0
	Start   = 1
	End     = 2
	Comment = 3
	Doctype = 4
	Wrong   = 5
	Finish  = 6
)

// Token is what a text is made of; its kind tells which fields are used.
type Token struct {
	Kind  int
	Name  string
	Attrs []string
	Text  string
	Flag  bool
	At    int
}

// ErrClosed: a tokenizer has been closed. ErrLimit: a text is too long.
var (
	ErrClosed = errors.New("unmark: closed")
	ErrLimit  = errors.New("unmark: too long")
)

// At is an error and its place.
type At struct {
	Place int
	Err   error
}

// Error tells it.
func (a *At) Error() string {
	if a == nil || a.Err == nil {
		return "unmark: no error"
	}
	return a.Err.Error() + " (at " + strconv.Itoa(a.Place) + ")"
}

// Unwrap tells what is wrong.
func (a *At) Unwrap() error {
	if a == nil {
		return nil
	}
	return a.Err
}

// Tokenizer takes a text apart.
type Tokenizer struct {
	points    points
	limit     int // how many bytes it takes at most
	bytes     int // how many have been taken: the place that an ErrClosed has
	closed    bool
	state     state
	base      state // the state of texts that the last tag led to
	place     int   // of the code point that is looked at
	text      []byte
	tag       tag
	lastStart string // the last start tag's name: in TITLE and RAW only its end tag is one
	declared  string // what has come in DECL, where it waits for more
	comment   []byte // empty once it is told, as doctype is, so that the next one is new
	doctype   doctype
	reference reference
	told      []Token
}

// New makes a tokenizer that takes at most limit bytes (P3).
func New(limit int) *Tokenizer {
	return &Tokenizer{limit: max(limit, 0)}
}

// Write takes a piece of text in, as far as the limit leaves room for it (P3).
func (t *Tokenizer) Write(chunk string) error {
	if t.isClosed() {
		return t.closedError()
	}
	fits := min(len(chunk), t.limit-t.bytes)
	t.bytes += fits
	t.points.read(chunk[:fits], t.lookAtNext)
	if fits < len(chunk) {
		t.end()
		return &At{Place: t.limit, Err: ErrLimit}
	}
	return nil
}

// Close ends the text (P3).
func (t *Tokenizer) Close() error {
	if t.isClosed() {
		return t.closedError()
	}
	t.end()
	t.tell(Token{Kind: Finish})
	return nil
}

// Take tells the tokens that were told since the last Take (P4).
func (t *Tokenizer) Take() []Token {
	if t == nil {
		return nil
	}
	told := t.told
	t.told = nil // the list is the caller's own from now on
	return told
}

// Held tells how many code points of text are not told yet (P4).
func (t *Tokenizer) Held() int {
	if t == nil {
		return 0
	}
	return utf8.RuneCount(t.text)
}

// end closes it and ends what is open. There is no Finish: a text that the
// limit has cut off has none.
func (t *Tokenizer) end() {
	t.closed = true
	t.points.end(t.lookAtNext)
	t.look(theEnd)
	t.tellText()
}

// isClosed counts a nil tokenizer as closed, so that no call panics on it.
func (t *Tokenizer) isClosed() bool { return t == nil || t.closed }

func (t *Tokenizer) closedError() error {
	if t == nil {
		return &At{Err: ErrClosed}
	}
	return &At{Place: t.bytes, Err: ErrClosed}
}
