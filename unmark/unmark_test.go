package unmark

import (
	"errors"
	"math"
	"slices"
	"strings"
	"testing"
	"unicode/utf8"
)

func TestKinds(t *testing.T) {
	const c0, c1, c2, c3, c4, c5, c6 int = Chars, Start, End, Comment, Doctype, Wrong, Finish
	if got := []int{c0, c1, c2, c3, c4, c5, c6}; !slices.Equal(got, []int{0, 1, 2, 3, 4, 5, 6}) {
		t.Errorf("the kinds' numbers: %v", got)
	}
}

func TestAtWrapsItsError(t *testing.T) {
	for _, wrapped := range []error{ErrClosed, ErrLimit, errors.New("")} {
		var err error = &At{Place: 3, Err: wrapped}
		var at *At
		if !errors.Is(err, wrapped) || !errors.As(err, &at) || at.Place != 3 || errors.Unwrap(err) != wrapped || err.Error() == "" {
			t.Errorf("At does not wrap %v: %v", wrapped, err)
		}
	}
	if errors.Is(&At{Err: ErrClosed}, ErrLimit) || errors.Is(ErrClosed, ErrLimit) {
		t.Error("ErrClosed is not ErrLimit")
	}
}

func TestAtWithoutError(t *testing.T) {
	var none *At
	for _, a := range []*At{{}, {Place: math.MinInt}, none} {
		if a.Error() == "" || a.Unwrap() != nil {
			t.Errorf("%#v: %q, %v", a, a.Error(), a.Unwrap())
		}
	}
}

// checkClosed: Write and Close tell ErrClosed and the number of bytes, and do nothing else.
func checkClosed(t *testing.T, x *Tokenizer, bytes int) {
	t.Helper()
	for _, err := range []error{x.Write("<a>"), x.Close(), x.Write(""), x.Close()} {
		checkAt(t, "P3: a closed tokenizer", err, ErrClosed, bytes)
	}
	if tokens := x.Take(); len(tokens) != 0 || x.Held() != 0 {
		t.Errorf("P3: closed, but told %s, held %d", spell(tokens), x.Held())
	}
}

func TestClosed(t *testing.T) {
	for _, text := range []string{"", "a", "\u00e9\r\n\xff", "<a", "<a b='", "\xe4\xb8", "x<", "x<!", "<!-", "<!--a--", "<!doctype", "<![CDATA", "<xmp></x", "x&", "&am", "&amp", "&noti", "&#x", "&#65", "<a b=&not"} {
		x := New(100)
		if err := x.Write(text); err != nil {
			t.Errorf("P3: Write(%q): %v", text, err)
		}
		if err := x.Close(); err != nil {
			t.Errorf("P3: Close behind %q: %v", text, err)
		}
		x.Take()
		checkClosed(t, x, len(text))
	}
}

// Tokens that were told stay to be taken when a call is refused.
func TestTakeBehindRefusal(t *testing.T) {
	x := New(100)
	x.Write("a<b>c")
	x.Close()
	x.Write("d")
	x.Close()
	if got := spell(x.Take()); got != `"a" <b[] "c" .` {
		t.Errorf("P4: %s", got)
	}
	checkClosed(t, x, 5)
}

func TestNilAndZeroTokenizers(t *testing.T) {
	checkClosed(t, nil, 0)
	var zero Tokenizer
	if zero.Held() != 0 || len(zero.Take()) != 0 {
		t.Error("a zero Tokenizer has told something")
	}
	if err := zero.Close(); err != nil || spell(zero.Take()) != "." {
		t.Errorf("a zero Tokenizer: %v", err)
	}
}

func TestNewTokenizerIsEmpty(t *testing.T) {
	for _, limit := range []int{math.MinInt, -1, 0, 1, math.MaxInt} {
		x := New(limit)
		if x.Held() != 0 || len(x.Take()) != 0 {
			t.Errorf("P3: New(%d) has told something", limit)
		}
		if err := x.Write(""); err != nil {
			t.Errorf("P3: New(%d), Write of nothing: %v", limit, err)
		}
		if err := x.Close(); err != nil || spell(x.Take()) != "." {
			t.Errorf("P3: New(%d), Close: %v", limit, err)
		}
		checkClosed(t, x, 0)
	}
}

// A Wrong is told at once; text waits for the next token of another kind.
func TestTakeAndHeld(t *testing.T) {
	for _, steps := range [][]step{
		{{"a<", "", 1}},
		{{"ab", "", 2}, {"\x00", "nul@2", 3}, {"<", "", 3}, {"/", "", 3}, {">", "no-name@5", 3}, {"c", "", 4}, {"<d", "", 4}, {">", `"ab\x00c" <d[]`, 0}},
		{{"x<a ", "", 1}, {"=", "equals@4", 1}, {"'\"", "sign@5 sign@6", 1}, {">", `"x" <a["='\"" ""]`, 0}},
		{{"<a b b", "", 0}, {" ", "twice@6", 0}, {"=", "", 0}, {">", `no-value@8 <a["b" ""]`, 0}},
		{{"<", "", 0}, {" ", "first@1", 2}, {"<", "", 2}, {"<", "first@3", 3}, {"", "", 3}},
		{{"x</a b", "", 1}, {"/", "", 1}, {">", `end-attributes@7 end-slash@7 "x" </a`, 0}, {"y", "", 1}},
		{{"\u4e16\xe4", "", 1}, {"\xb8", "", 1}, {"\x96", "", 2}, {"\xf0\x9f", "", 2}, {"<", "", 3}},
		{{"a\r", "", 2}, {"\n", "", 2}, {"\x00", "nul@2", 3}},
		{{"a<!", "", 1}, {"-", "", 1}, {"-", "", 1}, {"\x00", "nul@5", 1}, {"b--", "", 1}, {"!", "", 1}, {">", "bang@10 \"a\" !\"\ufffdb\"", 0}, {"c", "", 1}},
		{{"a<!-", "", 1}, {"b", "declaration@3", 1}, {"-", "", 1}, {">", `"a" !"-b-"`, 0}},
		{{"<!d", "", 0}, {"O", "", 0}, {"ctyp", "", 0}, {"E", "", 0}, {">", "no-name@9 !!*", 0}},
		{{"<!doctyp", "", 0}, {"\xc3", "", 0}, {"\xa9", "declaration@2", 0}, {">", "!\"doctyp\u00e9\"", 0}},
		{{"<!doctype", "", 0}, {"a", "no-blank@9", 0}, {" ", "", 0}, {"b", "kind@11", 0}, {"\x00", "nul@12", 0}, {">", "!!a*", 0}},
		{{"x<![CDATA", "", 1}, {"[", "cdata@3", 1}, {"]]", "", 1}, {">", `"x" !"[CDATA[]]"`, 0}},
		{{"<![CDAT", "", 0}, {">", `declaration@2 !"[CDAT"`, 0}},
		{{"<![", "", 0}, {"c", "declaration@2", 0}, {">", `!"[c"`, 0}},
		{{"x<!-->", `abrupt@5 "x" !""`, 0}, {"y<!---", "", 1}, {">", `abrupt@12 "y" !""`, 0}},
		{{"<title>a<", "<title[]", 1}, {"b", "", 3}, {"</", "", 3}, {"Ti", "", 3}, {"\x00", "nul@14", 8}, {"</title", "", 8}, {"s", "", 8}, {" ", "", 17}, {"</TITLE", "", 17}, {" ", "", 17}, {"b", "", 17}, {">", "end-attributes@33 \"a<b</Ti\ufffd</titles \" </title", 0}, {"<", "", 0}, {"1", "first@35", 2}},
		{{"<xmp></", "<xmp[]", 0}, {"x", "", 0}, {"m", "", 0}, {"\xe4", "", 0}, {"\xb8\x96", "", 5}, {"<", "", 5}, {"<", "", 6}, {"/", "", 6}, {"/", "", 9}},
		{{"a<b c=\"d>", "", 1}, {"\"", "", 1}, {"e", "no-blank@10", 1}, {"/", "", 1}, {"/", "slash@12", 1}, {">", `"a" <b["c" "d>" "e" ""]*`, 0}},
	} {
		writeSteps(t, steps)
	}
}

// The examples of DOC.md.
func TestExamplesOfTheDocument(t *testing.T) {
	check(t, []example{
		{"<P Class=a b='c'>x &lt y</p>", `<p["class" "a" "b" "c"] semicolon@22 "x < y" </p .`},
		{"<title><b>&amp;</TITLE >", `<title[] "<b>&" </title .`},
		{"<!doctype HTML><!--a--b-->", `!!html !"a--b" .`},
		{"<!-->", `abrupt@4 !"" .`},
		{"a<", `end-in-tag@2 "a<" .`},
	})
	writeSteps(t, []step{{"a<", "", 1}})
	writeSteps(t, []step{{"&am", "", 0}, {"x", "", 4}})
}

func TestTokenizersAreApart(t *testing.T) {
	left, right := "a&amp<b c='d&#65'><!doctype e f>&no<xmp></g>&lt;\x00\xc3", "\r&#x4<e f f=g&amp/></h i><!--i--j--><!doct<title>&notin<"
	x, y := New(100), New(100)
	for i := range max(len(left), len(right)) {
		x.Write(left[min(i, len(left)):min(i+1, len(left))])
		y.Write(right[min(i, len(right)):min(i+1, len(right))])
	}
	x.Close()
	y.Close()
	if got, want := spell(x.Take()), spell(inPieces(t, left)); got != want {
		t.Errorf("P2: %s, want %s", got, want)
	}
	if got, want := spell(y.Take()), spell(inPieces(t, right)); got != want {
		t.Errorf("P2: %s, want %s", got, want)
	}
}

func TestListsAreTheCallersOwn(t *testing.T) {
	x := New(100)
	x.Write("a<b c=d><e f=g>")
	first := x.Take()
	want := spell(first)
	x.Write("h<i j=k><l m=n>")
	if got := spell(first); got != want {
		t.Errorf("P2: a later Write has changed %s to %s", want, got)
	}
	first[1].Attrs[0] = "changed"
	first[1].Attrs = append(first[1].Attrs[:1], "changed", "changed")
	first = append(first[:2], Token{Kind: End, Name: "changed"})
	if got := spell(first[2:3]); got != "</changed" {
		t.Errorf("P2: %s", got)
	}
	if got := spell(x.Take()); got != `"h" <i["j" "k"] <l["m" "n"]` {
		t.Errorf("P2: what was done to an earlier list has changed %s", got)
	}
}

// No text of these signs makes a call panic, or depends on how it is cut; and
// the tokens behind each Write are a beginning of all.
func TestAllShortTexts(t *testing.T) {
	for _, c := range []struct {
		begin string
		most  int
		signs string
	}{
		{"", 4, "<>/a=\"' \r\n\x00\xc3?!"},
		{"<a b", 4, "<>/a=\"' \r\n\x00\xc3?!"},
		{"</a b='c' d=", 4, "<>/a=\"' \r\n\x00\xc3?!"},
		{"a<!", 5, "-<>!dD[\x00"},
		{"<!--", 6, "-<>!a\x00"},
		{"<!doctyp", 5, "eE>-a \x00\r"},
		{"<![CDATA", 4, "[]>-A\x00"},
		{"<xmp>", 5, "<>/xX\x00\r!"},
		{"<title></title", 4, "<>/tT \n='"},
		{"a&", 4, "amp;#x1&= <\r\xc3"},
		{"<a b='&", 4, "lt;#X0&='\x00"},
		{"<a b=&", 4, "lt;#X0&=> "},
		{"&no", 5, "tin;=&"},
		{"<a b=\"&no", 5, "tin;=\""},
		{"<title>&#", 5, "xXaf0;<&"},
	} {
		tryAll(t, c.begin, c.most, []byte(c.signs))
	}
}

// tryAll tries the text with up to most of these signs behind it.
func tryAll(t *testing.T, text string, most int, signs []byte) {
	t.Helper()
	tryText(t, text)
	if most == 0 {
		return
	}
	for _, sign := range signs {
		tryAll(t, text+string([]byte{sign}), most-1, signs)
	}
}

func tryText(t *testing.T, text string) {
	t.Helper()
	tokens := inPieces(t, text)
	whole := spell(tokens)
	if parts := spell(inPieces(t, eachByte(text)...)); parts != whole {
		t.Errorf("P7: %q: byte by byte %s, at once %s", text, parts, whole)
	}
	open := New(len(text))
	open.Write(text)
	begun := open.Take()
	if !isBeginning(begun, tokens) {
		t.Errorf("P7: %q: %s is not the beginning of %s", text, spell(begun), whole)
	}
	checkAt(t, "P3: Write beyond the limit", open.Write("x"), ErrLimit, len(text))
	limited := append(begun, open.Take()...)
	if got, want := spell(limited), spell(tokens[:len(tokens)-1]); got != want {
		t.Errorf("P3: %q, ended by the limit: %s, want %s", text, got, want)
	}
}

func isBeginning(begun, whole []Token) bool {
	return len(begun) <= len(whole) && spell(begun) == spell(whole[:len(begun)])
}

// However a text goes on, what was told stays.
func TestTokensSoFarAreABeginning(t *testing.T) {
	goingOn := []string{"", "a", "n", ";", "1", "x41;", ">", "/>", "<", "-", "->", "!>", "=", "\"", "'", " ", "\n", "\r\n", "\x00", "\x80", "\xb8\x96", "[", "</title>", "&lt"}
	for _, text := range []string{
		"a&amp<b c='d&#65'><!doctype e f>&no<xmp></xmp>&lt;\x00\xc3\xa9",
		"\r\n&#x41;<e f f=g&amp/></h i/><!--i--!j--!><title>&notin</titles></title>",
		"<![CDATA[a]]><!doctyp><!-><?b></?c></><d e=\"&not=\"f>\xe4\xb8\x96\xf0\x9f<!---><!-->",
	} {
		for i := range len(text) + 1 {
			open := New(i)
			if err := open.Write(text[:i]); err != nil {
				t.Errorf("P3: Write(%q): %v", text[:i], err)
			}
			begun := open.Take()
			for _, rest := range append(goingOn, text[i:]) {
				if whole := inPieces(t, text[:i]+rest); !isBeginning(begun, whole) {
					t.Errorf("P7: behind %q: %s; with %q: %s", text[:i], spell(begun), rest, spell(whole))
				}
			}
		}
	}
}

// FuzzCuts may be given texts by go test -fuzz; without, it runs these.
func FuzzCuts(f *testing.F) {
	f.Add("<P Class=a b='c'>x < y</p>", 7)
	f.Add("\xf0\x9f\x98\x80\r\n<a\xe4\xb8 b=\"\r\n\">", 2)
	f.Add("</a/b c c=`", 9)
	f.Add("<!--a--!><!doctype b c><![CDATA[d]]><?e>", 5)
	f.Add("<title>a</titles></Title b><script></script", 12)
	f.Add("&amp;&lt&noti;&notin;&x;<a b='&not=&#65' c=&#x1F600;>", 11)
	f.Add("&#0&#xFFFF;&#128;&#99999999999999999999;&#;&#x<title>&gt", 20)
	f.Fuzz(func(t *testing.T, text string, cut int) {
		cut = max(0, min(cut, len(text)))
		whole := inPieces(t, text)
		parts := inPieces(t, text[:cut], text[cut:])
		if spell(whole) != spell(parts) {
			t.Errorf("P7: %q, cut at %d: %s, at once %s", text, cut, spell(parts), spell(whole))
		}
		checkUnusedFields(t, whole)
		if cut < len(text) {
			taken := inPieces(t, text[:cut])
			if got, want := spell(upToLimit(t, cut, text)), spell(taken[:len(taken)-1]); got != want {
				t.Errorf("P3: %q up to %d: %s, want %s", text, cut, got, want)
			}
		}
		if utf8.ValidString(text) && !strings.ContainsRune(text, nul) {
			checkReadAgain(t, text)
		}
	})
}
