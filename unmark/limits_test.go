package unmark

import (
	"errors"
	"math"
	"strings"
	"testing"
)

// checkAt: err is an *At that wraps one of the two errors, and has that place.
func checkAt(t *testing.T, what string, err, wrapped error, place int) {
	t.Helper()
	var at *At
	if !errors.As(err, &at) || at != err || at.Place != place || at.Err != wrapped || err.Error() == "" {
		t.Errorf("%s: %v, want %v at %d", what, err, wrapped, place)
	}
	for _, fixed := range []error{ErrClosed, ErrLimit} {
		if errors.Is(err, fixed) != (fixed == wrapped) {
			t.Errorf("%s: errors.Is asked for %v tells %v", what, fixed, errors.Is(err, fixed))
		}
	}
}

// upToLimit writes the pieces, of which the last one goes beyond the limit and
// no other does, and tells all tokens.
func upToLimit(t *testing.T, limit int, pieces ...string) []Token {
	t.Helper()
	x := New(limit)
	last := len(pieces) - 1
	var all []Token
	for _, piece := range pieces[:last] {
		if err := x.Write(piece); err != nil {
			t.Errorf("P3: Write(%q) of %q up to %d: %v", piece, pieces, limit, err)
		}
		all = append(all, x.Take()...)
	}
	checkAt(t, "P3: Write beyond the limit", x.Write(pieces[last]), ErrLimit, max(limit, 0))
	if x.Held() != 0 {
		t.Errorf("P3: %q up to %d: %d are held", pieces, limit, x.Held())
	}
	all = append(all, x.Take()...)
	checkClosed(t, x, max(limit, 0))
	return all
}

// cutsUpTo tells the ways to cut a text so that only the last piece goes beyond the limit.
func cutsUpTo(text string, limit int) [][]string {
	list := [][]string{append(eachByte(text[:limit]), text[limit:]), {"", text[:limit], "", text[limit:]}}
	for i := range limit + 1 {
		list = append(list, []string{text[:i], text[i:]})
	}
	return list
}

// TestWithinTheLimit: one byte less than the limit and just the limit are taken.
func TestWithinTheLimit(t *testing.T) {
	for _, text := range []string{"a", "<a>", "\u4e16", "a\r\n", "&amp", "<!--a", "a<b c='d'>e</f><!doctype g>&lt;"} {
		for _, limit := range []int{len(text), len(text) + 1, len(text) + 4096, math.MaxInt - 1, math.MaxInt} {
			for _, pieces := range cuts(text) {
				x := New(limit)
				for _, piece := range pieces {
					if err := x.Write(piece); err != nil {
						t.Errorf("P3: Write(%q) of %q up to %d: %v", piece, pieces, limit, err)
					}
				}
				if err := x.Close(); err != nil {
					t.Errorf("P3: Close behind %q up to %d: %v", pieces, limit, err)
				}
				if got, want := spell(x.Take()), spell(inPieces(t, text)); got != want {
					t.Errorf("P3: %q up to %d: %s, want %s", pieces, limit, got, want)
				}
				checkClosed(t, x, len(text))
			}
		}
	}
}

// limited is a text, how many bytes of it are taken, and the tokens of these.
type limited struct {
	limit int
	example
}

// checkLimited holds what is told against what is wanted, however the text is cut.
func checkLimited(t *testing.T, list []limited) {
	t.Helper()
	for _, e := range list {
		for _, pieces := range cutsUpTo(e.text, e.limit) {
			tokens := upToLimit(t, e.limit, pieces...)
			if got := spell(tokens); got != e.want {
				t.Errorf("P3: %q up to %d:\n got %s\nwant %s", pieces, e.limit, got, e.want)
			}
			checkUnusedFields(t, tokens)
		}
	}
}

func TestBeyondTheLimitInTexts(t *testing.T) {
	checkLimited(t, []limited{
		{1, example{"ab", `"a"`}},
		{3, example{"abcd", `"abc"`}},
		{3, example{"abc" + strings.Repeat("<d>", 1000), `"abc"`}},
		{3, example{"<a>b", `<a[]`}},
		{5, example{"<a>bcd", `<a[] "bc"`}},
		{5, example{"b<a>\x00c", `"b" <a[] nul@4 "\x00"`}},
		{1, example{"\x00\x00", `nul@0 "\x00"`}},
		{8, example{"<title>a</title>", `<title[] "a"`}},
		{9, example{"<title>a</title>", `<title[] "a<"`}},
		{10, example{"<title>a</title>", `<title[] "a</"`}},
		{12, example{"<title>a</Title>", `<title[] "a</Ti"`}},
		{15, example{"<title>a</Title>", `<title[] "a</Title"`}},
		{8, example{"<xmp>b</xmp>", `<xmp[] "b</"`}},
	})
}

// Bytes that may be the beginning of something well-formed are no more than
// that, once the limit has cut them off.
func TestBeyondTheLimitInCodePoints(t *testing.T) {
	checkLimited(t, []limited{
		{1, example{"\u00e9", "\"\ufffd\""}},
		{2, example{"\u00e9b", "\"\u00e9\""}},
		{1, example{"\u4e16", "\"\ufffd\""}},
		{2, example{"\u4e16", "\"\ufffd\""}},
		{3, example{"\U0001f600", "\"\ufffd\""}},
		{3, example{"a\u4e16b", "\"a\ufffd\""}},
		{4, example{"a\u4e16b", "\"a\u4e16\""}},
		{1, example{"\xff\xff", "\"\ufffd\""}},
		{2, example{"<\u00e9>", "first@1 \"<\ufffd\""}},
		{3, example{"<a\u00e9>", "end-in-tag@3"}},
		{5, example{"<!--\u00e9-->", "end-in-comment@5 !\"\ufffd\""}},
		{4, example{"&lt\u00e9", "semicolon@3 \"<\ufffd\""}},
		{4, example{"<!d\u00e9>", "declaration@2 !\"d\ufffd\""}},
	})
}

func TestBeyondTheLimitInLineEnds(t *testing.T) {
	checkLimited(t, []limited{
		{1, example{"\r\n", `"\n"`}},
		{1, example{"\rb", `"\n"`}},
		{2, example{"a\r\nb", `"a\n"`}},
		{3, example{"a\r\nb", `"a\n"`}},
		{2, example{"a\r\r\n", `"a\n"`}},
		{3, example{"a\r\r\n", `"a\n\n"`}},
		{3, example{"<a\r\n>", "end-in-tag@3"}},
		{4, example{"<a\r\n>", "end-in-tag@3"}},
		{5, example{"<!--\r\n-->", `end-in-comment@5 !"\n"`}},
		{4, example{"&lt\r\n", `semicolon@3 "<\n"`}},
	})
}

func TestBeyondTheLimitInTags(t *testing.T) {
	checkLimited(t, []limited{
		{1, example{"<a>", `end-in-tag@1 "<"`}},
		{3, example{"xy<a>", `end-in-tag@3 "xy<"`}},
		{2, example{"</a>", `end-in-tag@2 "</"`}},
		{2, example{"<a>", "end-in-tag@2"}},
		{4, example{"xy<a>", `end-in-tag@4 "xy"`}},
		{3, example{"</a>", "end-in-tag@3"}},
		{3, example{"<a >", "end-in-tag@3"}},
		{4, example{"<a b c>", "end-in-tag@4"}},
		{5, example{"<a b c>", "end-in-tag@5"}},
		{6, example{"<a b b>", "twice@6 end-in-tag@6"}},
		{4, example{"<a =>", "equals@3 end-in-tag@4"}},
		{5, example{"<a b=c>", "end-in-tag@5"}},
		{6, example{"<a b=c>", "end-in-tag@6"}},
		{6, example{"<a b='c'>", "end-in-tag@6"}},
		{7, example{"<a b=\"c\">", "end-in-tag@7"}},
		{8, example{"<a b='c'>", "end-in-tag@8"}},
		{3, example{"<a/>", "end-in-tag@3"}},
		{4, example{"<a/b>", "slash@3 end-in-tag@4"}},
		{14, example{"<title></title>", `<title[] "</title"`}},
		{15, example{"<title></title >", "<title[] end-in-tag@15"}},
	})
}

func TestBeyondTheLimitInComments(t *testing.T) {
	checkLimited(t, []limited{
		{2, example{"<?a>", `question@1 !"?"`}},
		{3, example{"</1>", `first@2 !"1"`}},
		{4, example{"<!--a-->", `end-in-comment@4 !""`}},
		{5, example{"<!--->", `end-in-comment@5 !""`}},
		{5, example{"<!--a-->", `end-in-comment@5 !"a"`}},
		{6, example{"<!--a-->", `end-in-comment@6 !"a"`}},
		{7, example{"<!--a-->", `end-in-comment@7 !"a"`}},
		{8, example{"<!--a--->", `end-in-comment@8 !"a-"`}},
		{8, example{"<!--a--!>", `end-in-comment@8 !"a"`}},
		{8, example{"<!--a-->b", `!"a"`}},
		{6, example{"x<!--\x00-->", "nul@5 end-in-comment@6 \"x\" !\"\ufffd\""}},
	})
}

func TestBeyondTheLimitInDeclarations(t *testing.T) {
	checkLimited(t, []limited{
		{2, example{"<!--a-->", `declaration@2 !""`}},
		{3, example{"<!--a-->", `declaration@2 !"-"`}},
		{4, example{"x<!--a-->", `declaration@3 "x" !"-"`}},
		{3, example{"<!Doctype a>", `declaration@2 !"D"`}},
		{8, example{"<!doctype a>", `declaration@2 !"doctyp"`}},
		{3, example{"<![CDATA[a]]>", `declaration@2 !"["`}},
		{8, example{"<![CDATA[a]]>", `declaration@2 !"[CDATA"`}},
		{9, example{"<![CDATA[a]]>", `cdata@2 !"[CDATA["`}},
		{10, example{"<![CDATA[a]]>", `cdata@2 !"[CDATA[a"`}},
	})
}

func TestBeyondTheLimitInDoctypes(t *testing.T) {
	checkLimited(t, []limited{
		{9, example{"<!doctype a>", "end-in-doctype@9 !!*"}},
		{10, example{"x<!doctype a>", `end-in-doctype@10 "x" !!*`}},
		{10, example{"<!doctype a>", "end-in-doctype@10 !!*"}},
		{11, example{"<!doctype A>", "end-in-doctype@11 !!a*"}},
		{12, example{"<!doctype a >", "end-in-doctype@12 !!a*"}},
		{13, example{"<!doctype a b>", "kind@12 !!a*"}},
		{12, example{"<!doctype a>b", "!!a"}},
	})
}

func TestBeyondTheLimitInReferences(t *testing.T) {
	checkLimited(t, []limited{
		{1, example{"&amp;", `"&"`}},
		{3, example{"&amp;", `"&am"`}},
		{4, example{"&amp;", `semicolon@4 "&"`}},
		{5, example{"&amp;x", `"&"`}},
		{4, example{"&ampx", `semicolon@4 "&"`}},
		{4, example{"&notin;", "semicolon@4 \"\u00ac\""}},
		{6, example{"&notin;", "semicolon@4 \"\u00acin\""}},
		{4, example{"&xyz;", `"&xyz"`}},
		{6, example{"a&hellip;", `"a&hell"`}},
		{2, example{"&#65;", `digits@2 "&#"`}},
		{3, example{"&#x41;", `digits@3 "&#x"`}},
		{3, example{"&#65;", `semicolon@3 control@3 "\x06"`}},
		{4, example{"&#65;", `semicolon@4 "A"`}},
		{5, example{"&#65;;", `"A"`}},
		{3, example{"&#0;", "semicolon@3 nul@3 \"\ufffd\""}},
		{4, example{"&#0;x", "nul@4 \"\ufffd\""}},
		{9, example{"<a b='&lt;'>", "semicolon@9 end-in-tag@9"}},
		{11, example{"<a b=\"&notin;\">", "end-in-tag@11"}},
		{8, example{"<a b=&#65;>", "semicolon@8 control@8 end-in-tag@8"}},
		{10, example{"<title>&lt;", `<title[] semicolon@10 "<"`}},
	})
}

// Without room, a Write of nothing is all there is to take.
func TestNoRoom(t *testing.T) {
	for _, limit := range []int{0, -1, -4096, math.MinInt + 1, math.MinInt} {
		for _, text := range []string{"x", "<a>", "\x00", "&lt", "\xe4", strings.Repeat("x", 5000)} {
			for _, pieces := range [][]string{{text}, {"", text}, {"", "", text}} {
				if tokens := upToLimit(t, limit, pieces...); len(tokens) != 0 {
					t.Errorf("P3: %q up to %d: %s", pieces, limit, spell(tokens))
				}
			}
		}
	}
}

// A full tokenizer is not closed: it takes nothing more, but nothing is wrong yet.
func TestFullIsNotClosed(t *testing.T) {
	x := New(3)
	for _, chunk := range []string{"ab", "c", "", ""} {
		if err := x.Write(chunk); err != nil {
			t.Errorf("P3: Write(%q): %v", chunk, err)
		}
	}
	if tokens := x.Take(); len(tokens) != 0 || x.Held() != 3 {
		t.Errorf("P3: full, but told %s, held %d", spell(tokens), x.Held())
	}
	if err := x.Close(); err != nil || spell(x.Take()) != `"abc" .` {
		t.Errorf("P3: Close: %v", err)
	}
	checkClosed(t, x, 3)
}

// Tokens that were told ahead of the limit stay to be taken behind it.
func TestTakeBehindTheLimit(t *testing.T) {
	x := New(6)
	x.Write("a<b>")
	checkAt(t, "P3: Write beyond the limit", x.Write("cd<e>"), ErrLimit, 6)
	checkAt(t, "P3: Write behind it", x.Write("f"), ErrClosed, 6)
	checkAt(t, "P3: Close behind it", x.Close(), ErrClosed, 6)
	if got := spell(x.Take()); got != `"a" <b[] "cd"` {
		t.Errorf("P3: %s", got)
	}
	checkClosed(t, x, 6)
}

func TestLimitsAreApart(t *testing.T) {
	x, y := New(2), New(4)
	if x.Write("ab") != nil || y.Write("cdef") != nil {
		t.Error("P2: one tokenizer's limit binds another one")
	}
	checkAt(t, "P3: Write beyond the limit", x.Write("g"), ErrLimit, 2)
	if err := y.Close(); err != nil || spell(y.Take()) != `"cdef" .` {
		t.Errorf("P2: one tokenizer's limit closes another one: %v", err)
	}
}
