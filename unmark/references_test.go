package unmark

import (
	"fmt"
	"slices"
	"strings"
	"testing"
)

// knownNames are those of DOC.md, without `;`; open: they are names without it, too.
var knownNames = []struct {
	name, means string
	open        bool
}{
	{"amp", "&", true}, {"AMP", "&", true}, {"lt", "<", true}, {"LT", "<", true},
	{"gt", ">", true}, {"quot", `"`, true}, {"apos", "'", false},
	{"nbsp", "\u00a0", true}, {"copy", "\u00a9", true}, {"not", "\u00ac", true},
	{"notin", "\u2209", false}, {"hellip", "\u2026", false},
}

// target is a place in which there are references: what is written around
// them, the tokens ahead of their errors, and those behind these, with %q for
// the text or the value.
type target struct{ begin, end, before, behind string }

var (
	texts = []target{
		{"", "", "", `%q .`},
		{"<title>", "", "<title[] ", `%q .`},
		{"<textarea>", "</textarea>", "<textarea[] ", `%q </textarea .`},
	}
	values = []target{
		{`<a b="`, `">`, "", `<a["b" %q] .`},
		{`<a b='`, `'>`, "", `<a["b" %q] .`},
		{`<a b=`, ` c>`, "", `<a["b" %q "c" ""] .`},
		{`<a b=`, `>`, "", `<a["b" %q] .`},
	}
	targets = slices.Concat(texts, values)
)

// checkIn holds what is written there against the text or the value that it
// becomes and its errors: names and places, from its beginning on, in turn.
func checkIn(t *testing.T, list []target, written, becomes string, errors ...any) {
	t.Helper()
	for _, x := range list {
		moved := slices.Clone(errors)
		for i := 1; i < len(moved); i += 2 {
			moved[i] = moved[i].(int) + len(x.begin)
		}
		check(t, []example{{
			x.begin + written + x.end,
			x.before + wrongs(moved...) + fmt.Sprintf(x.behind, becomes),
		}})
	}
}

// otherSigns has each code point below 80 (in sixteens) and some above that is
// neither a letter nor a digit, an `=` nor a `;`, and is read as it is in texts
// and values of each kind.
func otherSigns() []string {
	list := []string{"\u00e9", "\u0660", "\uff11", "\u212a", "\ufffd", "\U0001f600"}
	for c := '\x01'; c < 0x80; c++ {
		if !isWithin(c, 'a', 'z') && !isWithin(c, 'A', 'Z') && !isWithin(c, '0', '9') && !strings.ContainsRune("\t\n\f\r \"'<=>`;&", c) {
			list = append(list, string(c))
		}
	}
	return list
}

func isWithin(c, first, last rune) bool { return first <= c && c <= last }

func TestNamesWithSemicolon(t *testing.T) {
	for _, n := range knownNames {
		written := "&" + n.name + ";"
		for _, rest := range []string{"", "-", "z", "Z", "0", ";", "\u00e9", written} {
			becomes := n.means + strings.Replace(rest, written, n.means, 1)
			checkIn(t, targets, written+rest, becomes)
			checkIn(t, targets, "x"+written+rest, "x"+becomes)
		}
		checkIn(t, texts, written+"=", n.means+"=")
		checkIn(t, values[:2], written+"=", n.means+"=")
	}
}

func TestNamesWithoutSemicolonInTexts(t *testing.T) {
	for _, n := range knownNames {
		written := "&" + n.name
		for _, rest := range append(otherSigns(), "", "z", "Z", "0", "9", "=", " ", "\n", `"`, "'", ">", "`", "aa;", "-;") {
			switch {
			case n.open:
				checkIn(t, texts, written+rest, n.means+rest, "semicolon", len(written))
			case n.name == "notin":
				checkIn(t, texts, written+rest, "\u00acin"+rest, "semicolon", len("&not"))
			case rest != "aa;":
				checkIn(t, texts, written+rest, written+rest)
			}
		}
	}
}

func TestNamesWithoutSemicolonInValues(t *testing.T) {
	for _, n := range knownNames {
		written := "&" + n.name
		for _, rest := range []string{"a", "z", "A", "Z", "0", "9", "zz;"} {
			if n.open || n.name == "notin" || rest != "zz;" {
				checkIn(t, values, written+rest, written+rest)
			}
		}
		checkIn(t, values[:2], written+"=", written+"=")
		checkIn(t, values[2:], written+"=", written+"=", "sign", len(written))
		for _, rest := range append(otherSigns(), "", "-;") {
			if n.open {
				checkIn(t, values, written+rest, n.means+rest, "semicolon", len(written))
			} else {
				checkIn(t, values, written+rest, written+rest)
			}
		}
	}
}

// What ends a text or a value ends a reference in it, too, and is looked at again.
func TestWhatComesIsLookedAtAgain(t *testing.T) {
	check(t, []example{
		{"&amp<b>", `semicolon@4 "&" <b[] .`},
		{"&amp</b>", `semicolon@4 "&" </b .`},
		{"&<b>", `"&" <b[] .`},
		{"&x<b>", `"&x" <b[] .`},
		{"&am<b>", `"&am" <b[] .`},
		{"&#<b>", `digits@2 "&#" <b[] .`},
		{"&#65<b>", `semicolon@4 "A" <b[] .`},
		{"&#65;<b>", `"A" <b[] .`},
		{"<title>&amp</title>", `<title[] semicolon@11 "&" </title .`},
		{"<title>&</title>", `<title[] "&" </title .`},
		{"<title>&lt;/title></title>", `<title[] "</title>" </title .`},
		{"<title>&lt/title></title>", `<title[] semicolon@10 "</title>" </title .`},
		{"<title><&amp;/title></title>", `<title[] "<&/title>" </title .`},
		{"&lt;b>&lt!--", `semicolon@9 "<b><!--" .`},
		{"<&lt;b>", `first@1 "<<b>" .`},
		{"<a b=\"&amp\">", `semicolon@10 <a["b" "&"] .`},
		{"<a b='&amp'>", `semicolon@10 <a["b" "&"] .`},
		{"<a b='&amp\"'>", `semicolon@10 <a["b" "&\""] .`},
		{"<a b=\"&\" c='&'>", `<a["b" "&" "c" "&"] .`},
		{"<a b=\"&quot;>\" c='&apos;>'>", `<a["b" "\">" "c" "'>"] .`},
		{"<a b=\"&quot>\">", `semicolon@11 <a["b" "\">"] .`},
		{"<a b='&#39;'>", `<a["b" "'"] .`},
		{"<a b=&amp c>", `semicolon@9 <a["b" "&" "c" ""] .`},
		{"<a b=&amp\tc>", `semicolon@9 <a["b" "&" "c" ""] .`},
		{"<a b=& c>", `<a["b" "&" "c" ""] .`},
		{"<a b=&>", `<a["b" "&"] .`},
		{"<a b=&gt;>", `<a["b" ">"] .`},
		{"<a b=&#32;c>", `<a["b" " c"] .`},
		{"<a b=&amp\"&lt'&gt<&not`>", "semicolon@9 sign@9 semicolon@13 sign@13 semicolon@17 sign@17 semicolon@22 sign@22 <a[\"b\" \"&\\\"<'><\u00ac`\"] ."},
		{"<a b=&quot;c&quot;>", `<a["b" "\"c\""] .`},
		{"<a b=&#34;c&#34;>", `<a["b" "\"c\""] .`},
		{"<a b= &lt;>", `<a["b" "<"] .`},
		{"&amp\x00", "semicolon@4 nul@4 \"&\\x00\" ."},
		{"&\x00&x\x00&#\x00&#65\x00", `nul@1 nul@4 digits@7 nul@7 semicolon@12 nul@12 "&\x00&x\x00&#\x00A\x00" .`},
		{"<title>&amp\x00", "<title[] semicolon@11 nul@11 \"&\ufffd\" ."},
		{"<a b=&amp\x00>", "semicolon@9 nul@9 <a[\"b\" \"&\ufffd\"] ."},
	})
}

// One name is the beginning of another: it waits, and gives back what it took in vain.
func TestLongestName(t *testing.T) {
	checkIn(t, targets, "&notin;", "\u2209")
	checkIn(t, targets, "&not;in;", "\u00acin;")
	checkIn(t, targets, "&not;", "\u00ac")
	checkIn(t, texts, "&noti", "\u00aci", "semicolon", 4)
	checkIn(t, texts, "&noti;", "\u00aci;", "semicolon", 4)
	checkIn(t, texts, "&notit;", "\u00acit;", "semicolon", 4)
	checkIn(t, texts, "&notin", "\u00acin", "semicolon", 4)
	checkIn(t, texts, "&notin-", "\u00acin-", "semicolon", 4)
	checkIn(t, texts, "&notin=", "\u00acin=", "semicolon", 4)
	checkIn(t, texts, "&notinn;", "\u00acinn;", "semicolon", 4)
	checkIn(t, texts, "&nothin;", "\u00achin;", "semicolon", 4)
	checkIn(t, texts, "&notIN;", "\u00acIN;", "semicolon", 4)
	checkIn(t, texts, "&notin\u00e9;", "\u00acin\u00e9;", "semicolon", 4)
	checkIn(t, texts, "&notin&notin;", "\u00acin\u2209", "semicolon", 4)
	checkIn(t, texts, "&notin&notin", "\u00acin\u00acin", "semicolon", 4, "semicolon", 10)
	for _, written := range []string{"&noti", "&noti;", "&notit;", "&notin", "&notin-", "&notinn;", "&nothin;", "&notIN;", "&noti\u00e9", "&notin&", "&notin&x"} {
		checkIn(t, values, written, written)
	}
	checkIn(t, values, "&notin&notin;", "&notin\u2209")
	checkIn(t, texts, "&ampamp;", "&amp;", "semicolon", 4)
	checkIn(t, values, "&ampamp;", "&ampamp;")
	checkIn(t, texts, "&ltlt;&gtgt;", "<lt;>gt;", "semicolon", 3, "semicolon", 9)
	checkIn(t, targets, "&amp;amp;", "&amp;")
	check(t, []example{
		{"<a>&notin<b>", `<a[] semicolon@7 "` + "\u00acin" + `" <b[] .`},
		{"&noti\x00", "semicolon@4 nul@5 \"\u00aci\\x00\" ."},
		{"<a b=\"&notin\x00\">", "nul@12 <a[\"b\" \"&notin\ufffd\"] ."},
	})
}

func TestNoNames(t *testing.T) {
	for _, name := range []string{
		"x", "X", "z", "Z", "a", "am", "A", "AM", "l", "L", "g", "q", "quo", "apo", "nb", "nbs", "c", "cop", "n", "no", "h", "helli",
		"Amp", "aMP", "AMp", "Lt", "lT", "GT", "Gt", "QUOT", "Quot", "APOS", "NBSP", "COPY", "Not", "NOT", "NOTIN", "HELLIP", "Hellip",
		"0", "9", "1a", "a1", "x1y2", "xamp", "1amp", "0lt", "hellips", "aposs", "nbx", "amq", "am1", "copz", "qquot",
	} {
		checkIn(t, targets, "&"+name, "&"+name)
		checkIn(t, targets, "&"+name+";", "&"+name+";", "unknown", 1+len(name))
		checkIn(t, targets, "&"+name+";;", "&"+name+";;", "unknown", 1+len(name))
		checkIn(t, targets, "&"+name+"-;", "&"+name+"-;")
		checkIn(t, targets, "&"+name+"\u00e9;", "&"+name+"\u00e9;")
		checkIn(t, targets, "&"+name+"&lt;", "&"+name+"<")
		checkIn(t, targets, "&"+name+";lt;", "&"+name+";lt;", "unknown", 1+len(name))
		checkIn(t, texts, "&"+name+"=;", "&"+name+"=;")
		checkIn(t, texts, "&"+name+" ;", "&"+name+" ;")
	}
}

func TestAmpersandAlone(t *testing.T) {
	checkIn(t, targets, "&", "&")
	checkIn(t, targets, "a&", "a&")
	checkIn(t, targets, "&;", "&;")
	checkIn(t, targets, "&&", "&&")
	checkIn(t, targets, "&&amp;&", "&&&")
	checkIn(t, targets, "&&&x;", "&&&x;", "unknown", 4)
	for _, sign := range otherSigns() {
		if sign != "#" {
			checkIn(t, targets, "&"+sign+"lt;", "&"+sign+"lt;")
		}
	}
	checkIn(t, texts, "& amp;&=lt;", "& amp;&=lt;")
}

// References that follow one another at once.
func TestReferencesInARow(t *testing.T) {
	checkIn(t, targets, "&amp&lt&gt", "&<>", "semicolon", 4, "semicolon", 7, "semicolon", 10)
	checkIn(t, targets, "&amp;&lt;&#65;&#x42;&not;", "&<AB\u00ac")
	checkIn(t, targets, "&#65&#x42&amp", "AB&", "semicolon", 4, "semicolon", 9, "semicolon", 13)
	checkIn(t, targets, "&x&am&#&#x&amp;", "&x&am&#&#x&", "digits", 7, "digits", 10)
	checkIn(t, targets, "&x;&am;&#;&#x;", "&x;&am;&#;&#x;", "unknown", 2, "unknown", 6, "digits", 9, "digits", 13)
	checkIn(t, targets, "&#38;amp;&#x26;#65;", "&amp;&#65;")
}

// In RAW, in names, in comments and in doctypes `&` is a sign as any other.
func TestWhereThereAreNoReferences(t *testing.T) {
	for _, name := range []string{"script", "style", "xmp"} {
		check(t, []example{
			{"<" + name + ">&lt;&#65;&amp&x;&</" + name + ">&lt;", "<" + name + `[] "&lt;&#65;&amp&x;&" </` + name + ` "<" .`},
			{"<" + name + ">&", "<" + name + `[] "&" .`},
		})
	}
	check(t, []example{
		{"<a&amp;>", `<a&amp;[] .`},
		{"</a&#65;>", `</a&#65; .`},
		{"<a &amp;>", `<a["&amp;" ""] .`},
		{"<a b&lt=c>", `<a["b&lt" "c"] .`},
		{"<a b &#65;=c>", `<a["b" "" "&#65;" "c"] .`},
		{"<a =&x;>", `equals@3 <a["=&x;" ""] .`},
		{"<a b=''&lt;>", `no-blank@7 <a["b" "" "&lt;" ""] .`},
		{"<a/&lt;>", `slash@3 <a["&lt;" ""] .`},
		{"<&>", `first@1 "<&>" .`},
		{"</&lt;>", `first@2 !"&lt;" .`},
		{"<!--&lt;&#65;-->", `!"&lt;&#65;" .`},
		{"<!&lt;>", `declaration@2 !"&lt;" .`},
		{"<?&lt;>", `question@1 !"?&lt;" .`},
		{"<![CDATA[&lt;]]>", `cdata@2 !"[CDATA[&lt;]]" .`},
		{"<!doctype&amp;>", `no-blank@9 !!&amp; .`},
		{"<!doctype a &amp;>", `kind@12 !!a* .`},
	})
}

// References are behind a tag as they were ahead of it.
func TestReferencesBehindTags(t *testing.T) {
	check(t, []example{
		{"<xmp></xmp>&lt;", `<xmp[] </xmp "<" .`},
		{"<title></title>&lt", `<title[] </title semicolon@18 "<" .`},
		{"<title>&lt;<&lt;</&lt;</t&lt;", `<title[] "<<<</<</t<" .`},
		{"<xmp>&lt;</xmp b=&lt;>&lt;", `<xmp[] end-attributes@21 "&lt;" </xmp "<" .`},
		{"&lt;<!--&-->&gt;", `"<" !"&" ">" .`},
		{"&lt;</>&gt;", `no-name@6 "<>" .`},
		{"<a b=&lt; b=&gt; c=&amp;>", `twice@11 <a["b" "<" "c" "&"] .`},
		{"<a b b=\"&amp&x;&#0;\">", `twice@6 semicolon@12 unknown@14 nul@19 <a["b" ""] .`},
		{"</a b='&amp'>", `semicolon@11 end-attributes@12 </a .`},
	})
}

func TestReferencesThatTheEndCutsOff(t *testing.T) {
	for _, begin := range []string{"<a b=\"", "<a b='", "<a b="} {
		for _, c := range []struct{ written, problem string }{
			{"&", ""}, {"&a", ""}, {"&am", ""}, {"&x", ""}, {"&apos", ""}, {"&amp;", ""}, {"&x;", "unknown"}, {"&noti", ""},
			{"&amp", "semicolon"}, {"&not", "semicolon"}, {"&#", "digits"}, {"&#x", "digits"}, {"&#X", "digits"}, {"&#65", "semicolon"}, {"&#65;", ""},
		} {
			end := len(begin + c.written)
			want := wrongs("end-in-tag", end) + "."
			if c.problem == "unknown" {
				want = wrongs(c.problem, end-1) + want
			} else if c.problem != "" {
				want = wrongs(c.problem, end) + want
			}
			check(t, []example{{begin + c.written, want}})
		}
	}
	check(t, []example{
		{"&amp", `semicolon@4 "&" .`},
		{"&#", `digits@2 "&#" .`},
		{"&#65", `semicolon@4 "A" .`},
		{"&am\xe4\xb8", "\"&am\ufffd\" ."},
		{"&amp\xe4\xb8", "semicolon@4 \"&\ufffd\" ."},
		{"<a b=&am\xe4\xb8", "end-in-tag@9 ."},
		{"<a b=&amp\xe4\xb8", "semicolon@9 end-in-tag@10 ."},
		{"&#65\xe4\xb8", "semicolon@4 \"A\ufffd\" ."},
		{"&#\xf0\x9f\x98", "digits@2 \"&#\ufffd\" ."},
	})
}

// Places count code points, not bytes; ends of lines are one.
func TestPlacesOfReferences(t *testing.T) {
	check(t, []example{
		{"\u00e9&amp", "semicolon@5 \"\u00e9&\" ."},
		{"\xe4\xb8&amp ", "semicolon@5 \"\ufffd& \" ."},
		{"\xe4&lt;\xb8&lt;", "\"\ufffd<\ufffd<\" ."},
		{"\r&amp\r\n&x;\r", `semicolon@5 unknown@8 "\n&\n&x;\n" .`},
		{"\r\n&#0;\r\n&#0\r\n", "nul@5 semicolon@9 nul@9 \"\\n\ufffd\\n\ufffd\\n\" ."},
		{"\r&\namp;", `"\n&\namp;" .`},
		{"&am\rp;", `"&am\np;" .`},
		{"&amp\u00e9;", "semicolon@4 \"&\u00e9;\" ."},
		{"&amp\xc3;", "semicolon@4 \"&\ufffd;\" ."},
		{"&am\u00e9p;", "\"&am\u00e9p;\" ."},
		{"\U0001f600&not\U0001f600&noti\U0001f600", "semicolon@5 semicolon@10 \"\U0001f600\u00ac\U0001f600\u00aci\U0001f600\" ."},
		{"<a b=\"\u4e16&lt\u754c\">", "semicolon@10 <a[\"b\" \"\u4e16<\u754c\"] ."},
		{"<a b=\u4e16&ltx&lt>", "semicolon@13 <a[\"b\" \"\u4e16&ltx<\"] ."},
	})
}

// What is held and told behind each Write: a reference waits, but no longer than it must.
func TestReferencesWait(t *testing.T) {
	for _, steps := range [][]step{
		{{"&am", "", 0}, {"x", "", 4}},
		{{"a&", "", 1}, {"a", "", 1}, {"m", "", 1}, {"p", "", 1}, {";", "", 2}, {"&", "", 2}, {"&", "", 3}, {" ", "", 5}},
		{{"&", "", 0}, {"x", "", 2}, {"y", "", 3}, {"1", "", 4}, {";", "unknown@4", 5}, {";", "", 6}},
		{{"&", "", 0}, {"1", "", 2}, {"a", "", 3}, {"-", "", 4}},
		{{"&amp", "", 0}, {"", "", 0}, {"\xc3", "", 0}, {"\xa9", "semicolon@4", 2}},
		{{"&amp", "", 0}, {"\r", "semicolon@4", 2}, {"\n", "", 2}},
		{{"&n", "", 0}, {"o", "", 0}, {"t", "", 0}, {"i", "", 0}, {"n", "", 0}, {";", "", 1}},
		{{"&not", "", 0}, {"i", "", 0}, {"n", "", 0}, {"x", "semicolon@4", 4}},
		{{"&not", "", 0}, {"x", "semicolon@4", 2}, {"&not", "", 2}, {";", "", 3}, {"&noti", "", 3}, {"&", "semicolon@14", 5}},
		{{"&hellip", "", 0}, {"s", "", 8}, {"&apos", "", 8}, {"=", "", 14}},
		{{"&AM", "", 0}, {"p", "", 4}, {"&H", "", 6}},
		{{"&#", "", 0}, {"x", "", 0}, {"4", "", 0}, {"1", "", 0}, {";", "", 1}},
		{{"&#", "", 0}, {"6", "", 0}, {"5", "", 0}, {"a", "semicolon@4", 2}},
		{{"&#", "", 0}, {"0", "", 0}, {"0", "", 0}, {";", "nul@5", 1}},
		{{"&#", "", 0}, {";", "digits@2", 3}, {"&#X", "", 3}, {"g", "digits@6", 7}},
		{{"&#99999999999", "", 0}, {"9", "", 0}, {"\n", "semicolon@14 range@14", 2}},
		{{"&#128", "", 0}, {";", "control@6", 1}},
		{{"<title>&lt", "<title[]", 0}, {"/", "semicolon@10", 2}},
		{{"<a b=\"&amp", "", 0}, {"\"", "semicolon@10", 0}, {">", `<a["b" "&"]`, 0}},
		{{"x<a b=&am", "", 1}, {"p", "", 1}, {"=", "sign@10", 1}, {">", `"x" <a["b" "&amp="]`, 0}},
		{{"<a b='&#", "", 0}, {"'", "digits@8", 0}, {">", `<a["b" "&#"]`, 0}},
		{{"<a b='&#1", "", 0}, {";", "control@10", 0}, {"'>", `<a["b" "\x01"]`, 0}},
		{{"<a b='&y", "", 0}, {";", "unknown@8", 0}, {"'>", `<a["b" "&y;"]`, 0}},
		{{"&lt;", "", 1}, {"<b", "", 1}, {">", `"<" <b[]`, 0}},
	} {
		writeSteps(t, steps)
	}
}

// A name may be of any length, and is not held back.
func TestLongNames(t *testing.T) {
	long := strings.Repeat("xY0", 100000)
	for _, x := range targets {
		want := x.before + wrongs("unknown", len(x.begin+"&"+long)) + fmt.Sprintf(x.behind, "&"+long+";")
		if got := spell(inPieces(t, x.begin+"&"+long, ";"+x.end)); got != want {
			t.Errorf("P1: a name of %d code points behind %q: %.60s", len(long), x.begin, got)
		}
	}
	writeSteps(t, []step{{"&" + long[:90], "", 91}})
}
