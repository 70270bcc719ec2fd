package unmark

import (
	"slices"
	"strings"
	"testing"
	"unicode/utf8"
)

func TestEscape(t *testing.T) {
	for _, c := range [][2]string{
		{"", ""},
		{"&", "&amp;"},
		{"<", "&lt;"},
		{"\"", "&quot;"},
		{"\r", "&#13;"},
		{"\x00", "&#0;"},
		{"a", "a"},
		{"a&b<c>d\"e'f", "a&amp;b&lt;c>d&quot;e'f"},
		{"&&<<\"\"\r\r\x00\x00", "&amp;&amp;&lt;&lt;&quot;&quot;&#13;&#13;&#0;&#0;"},
		{"\r\n\r", "&#13;\n&#13;"},
		{"\n\t\f\v\x01 `=/'>;#", "\n\t\f\v\x01 `=/'>;#"},
		{"&amp;", "&amp;amp;"},
		{"&lt;&quot;&#13;&#0;", "&amp;lt;&amp;quot;&amp;#13;&amp;#0;"},
		{"\u00a0\u00e9\u4e16\U0001f600\ufffd\ufeff", "\u00a0\u00e9\u4e16\U0001f600\ufffd\ufeff"},
		{"\xff", "\xff"},
		{"\xc3", "\xc3"},
		{"\xc3&\xa9", "\xc3&amp;\xa9"},
		{"\xe4\xb8<\xf0\x9f\"", "\xe4\xb8&lt;\xf0\x9f&quot;"},
		{"\xed\xa0\x80\xc0\x80\xf4\x90\x80\x80", "\xed\xa0\x80\xc0\x80\xf4\x90\x80\x80"},
		{strings.Repeat("<\xff", 10000), strings.Repeat("&lt;\xff", 10000)},
	} {
		if got := Escape(c[0]); got != c[1] {
			t.Errorf("P6: Escape(%q) = %q, want %q", c[0], got, c[1])
		}
	}
}

// Only the five signs are written otherwise, whatever byte stands beside them.
func TestEscapeEachByte(t *testing.T) {
	signs := map[byte]string{'&': "&amp;", '<': "&lt;", '"': "&quot;", '\r': "&#13;", 0: "&#0;"}
	for i := range 256 {
		want, ok := signs[byte(i)]
		text := string([]byte{byte(i)})
		if !ok {
			want = text
		}
		if got := Escape(text); got != want {
			t.Errorf("P6: Escape(%q) = %q, want %q", text, got, want)
		}
		if got := Escape("<" + text + "&"); got != "&lt;"+want+"&amp;" {
			t.Errorf("P6: Escape of %q between `<` and `&` is %q", text, got)
		}
	}
}

// withoutWrongs leaves errors out: a U+000D is told with one.
func withoutWrongs(tokens []Token) []Token {
	return slices.DeleteFunc(tokens, func(x Token) bool { return x.Kind == Wrong })
}

// checkReadAgain: the text, escaped, is read as it was.
func checkReadAgain(t *testing.T, text string) {
	t.Helper()
	chars := []Token{{Kind: Chars, Text: text}}
	if text == "" {
		chars = nil
	}
	finish := Token{Kind: Finish}
	start := Token{Kind: Start, Name: "a", Attrs: []string{"b", text}}
	title := Token{Kind: Start, Name: "title"}
	escaped := Escape(text)
	for _, c := range []struct {
		written string
		want    []Token
	}{
		{escaped, append(slices.Clone(chars), finish)},
		{`<a b="` + escaped + `">`, []Token{start, finish}},
		{`<a b="` + escaped + `">` + escaped, append(append([]Token{start}, chars...), finish)},
		{"<title>" + escaped + "</title>", append(append([]Token{title}, chars...), Token{Kind: End, Name: "title"}, finish)},
	} {
		if got, want := spell(withoutWrongs(inPieces(t, c.written))), spell(c.want); got != want {
			t.Errorf("P7: %q, escaped, is read as %s, want %s", c.written, got, want)
		}
	}
}

func TestEscapedIsReadAgain(t *testing.T) {
	for _, text := range []string{
		"&amp;", "&lt", "&notin;", "&#65;", "&#x41;", "&#0;", "<a b='c'>", "</title>", "</a>", "<!--a-->", "<!doctype a>",
		"\" c=\"d", "'\">", "\r\n\r\r\n\n", "a=b&c=d&lt=e", "\u00a0\u00e9\u4e16\U0001f600\ufffd\ufeff", "\x01\x1f\x7f\u0080\u009f",
	} {
		checkReadAgain(t, text)
	}
	var try func(text string, most int)
	try = func(text string, most int) {
		checkReadAgain(t, text)
		if most == 0 {
			return
		}
		for _, sign := range []string{"&", "<", ">", "\"", "'", "\r", "\n", "lt", ";", "#", "x", "3", "/", "!", "=", " ", "\u4e16"} {
			try(text+sign, most-1)
		}
	}
	try("", 3)
}

// TestEachCodePointIsReadAgain: all of them but NUL.
func TestEachCodePointIsReadAgain(t *testing.T) {
	var all []rune
	for c := rune(1); c <= utf8.MaxRune; c++ {
		if utf8.ValidRune(c) {
			all = append(all, c)
		}
	}
	for part := range slices.Chunk(all, 1<<12) {
		checkReadAgain(t, string(part))
	}
}
