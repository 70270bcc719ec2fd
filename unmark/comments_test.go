package unmark

import (
	"strings"
	"testing"
)

func TestDecl(t *testing.T) {
	check(t, []example{
		{"<!---->", `!"" .`},
		{"<!doctype a>", `!!a .`},
		{"<![CDATA[]]>", `cdata@2 !"[CDATA[]]" .`},
		{"a<!b>c", `declaration@3 "a" !"b" "c" .`},
		{"<!>", `declaration@2 !"" .`},
		{"<!", `declaration@2 !"" .`},
		{"<!\x00", "declaration@2 nul@2 !\"\ufffd\" ."},
		{"<!!-- -->", `declaration@2 !"!-- --" .`},
		{"<! doctype a>", `declaration@2 !" doctype a" .`},
		{"<!\u00e9>", "declaration@2 !\"\u00e9\" ."},
		{"<!\xff>", "declaration@2 !\"\ufffd\" ."},
	})
}

// What is one of the three but for its last sign, or for a wrong one, is a
// wrong declaration at its first sign, wherever it turns out to be.
func TestDeclarationsThatBreakOff(t *testing.T) {
	for _, whole := range []string{"--", "doctype", "DocTYPE", "[CDATA["} {
		for i := range len(whole) {
			begun := whole[:i]
			check(t, []example{
				{"a<!" + begun, `declaration@3 "a" !"` + begun + `" .`},
				{"a<!" + begun + ">b", `declaration@3 "a" !"` + begun + `" "b" .`},
				{"a<!" + begun + "x" + whole + ">b", `declaration@3 "a" !"` + begun + "x" + whole + `" "b" .`},
				{"<!" + begun + "\x00>", "declaration@2 " + wrongs("nul", 2+i) + `!"` + begun + "\ufffd\" ."},
				{"<!" + begun + "\xff", `declaration@2 !"` + begun + "\ufffd\" ."},
				{"<!" + begun + "\r\n>", `declaration@2 !"` + begun + `\n" .`},
				{"\r\n\u00e9<!" + begun, "declaration@4 \"\\n\u00e9\" !\"" + begun + `" .`},
			})
		}
	}
	check(t, []example{
		{"<!-doctype a>", `declaration@2 !"-doctype a" .`},
		{"<!d--a-->", `declaration@2 !"d--a--" .`},
		{"<![--a-->", `declaration@2 !"[--a--" .`},
		{"<!do[CDATA[>", `declaration@2 !"do[CDATA[" .`},
		{"<!doct\u00ffpe a>", "declaration@2 !\"doct\u00ffpe a\" ."},
	})
}

// In DECL it waits as long as one of the three may come, and no longer.
func TestDeclarationsThatWait(t *testing.T) {
	for _, c := range []struct{ whole, told string }{
		{"--", ""}, {"doctype", ""}, {"DOCTYPE", ""}, {"dOcTyPe", ""}, {"[CDATA[", "cdata@3"},
	} {
		for i := range len(c.whole) {
			writeSteps(t, []step{{"a<!" + c.whole[:i], "", 1}, {"", "", 1}, {c.whole[i:], c.told, 1}})
			writeSteps(t, []step{{"a<!" + c.whole[:i], "", 1}, {"x", "declaration@3", 1}, {c.whole[i:], "", 1}})
		}
	}
}

func TestCdata(t *testing.T) {
	check(t, []example{
		{"a<![CDATA[b<c>]]>d", `cdata@3 "a" !"[CDATA[b<c" "]]>d" .`},
		{"<![CDATA[>a", `cdata@2 !"[CDATA[" "a" .`},
		{"<![CDATA[", `cdata@2 !"[CDATA[" .`},
		{"<![CDATA[\x00", "cdata@2 nul@9 !\"[CDATA[\ufffd\" ."},
		{"<![cdata[a]]>", `declaration@2 !"[cdata[a]]" .`},
		{"<![CDATa[a]]>", `declaration@2 !"[CDATa[a]]" .`},
		{"<![CDATA a]]>", `declaration@2 !"[CDATA a]]" .`},
		{"<![CDATA[a]]><![CDATA[b]]>", `cdata@2 !"[CDATA[a]]" cdata@15 !"[CDATA[b]]" .`},
	})
}

func TestBogus(t *testing.T) {
	check(t, []example{
		{"<!a>b", `declaration@2 !"a" "b" .`},
		{"<!a<b--\"'&amp;>c", `declaration@2 !"a<b--\"'&amp;" "c" .`},
		{"<!a\x00b\x00>", "declaration@2 nul@3 nul@5 !\"a\ufffdb\ufffd\" ."},
		{"<?a\r\n\xc3>", "question@1 !\"?a\\n\ufffd\" ."},
		{"<!a", `declaration@2 !"a" .`},
		{"<!a><?b></1>", `declaration@2 !"a" question@5 !"?b" first@10 !"1" .`},
	})
}

func TestBegin(t *testing.T) {
	check(t, []example{
		{"<!-->a", `abrupt@4 !"" "a" .`},
		{"<!--a-->", `!"a" .`},
		{"<!-- -->", `!" " .`},
		{"<!--\x00-->", "nul@4 !\"\ufffd\" ."},
		{"<!--", `end-in-comment@4 !"" .`},
		{"<!--!>-->", `!"!>" .`},
		{"a<!--b-->c", `"a" !"b" "c" .`},
	})
}

func TestBeginDash(t *testing.T) {
	check(t, []example{
		{"<!---->a", `!"" "a" .`},
		{"<!--->a", `abrupt@5 !"" "a" .`},
		{"<!---", `end-in-comment@5 !"" .`},
		{"<!---a-->", `!"-a" .`},
		{"<!---!>-->", `!"-!>" .`},
		{"<!---\x00-->", "nul@5 !\"-\ufffd\" ."},
	})
}

func TestComment(t *testing.T) {
	check(t, []example{
		{"<!--a>b<c>&lt;\r\n\u00e9\xff!-->d", "!\"a>b<c>&lt;\\n\u00e9\ufffd!\" \"d\" ."},
		{"<!--A-->", `!"A" .`},
		{"<!--a\x00b\x00-->", "nul@5 nul@7 !\"a\ufffdb\ufffd\" ."},
		{"<!--a", `end-in-comment@5 !"a" .`},
		{"a<!--b", `end-in-comment@6 "a" !"b" .`},
		{"<!--<!--a-->-->", `!"<!--a" "-->" .`},
		{"<!--a--><!--b-->", `!"a" !"b" .`},
		{"<!--a--><?b>", `!"a" question@9 !"?b" .`},
	})
}

func TestDash(t *testing.T) {
	check(t, []example{
		{"<!--a-b-->", `!"a-b" .`},
		{"<!--a->-->", `!"a->" .`},
		{"<!--a-!>-->", `!"a-!>" .`},
		{"<!--a-\x00-->", "nul@6 !\"a-\ufffd\" ."},
		{"<!--a-", `end-in-comment@6 !"a" .`},
	})
}

func TestDashes(t *testing.T) {
	check(t, []example{
		{"<!--a--b-->", `!"a--b" .`},
		{"<!--a--->b", `!"a-" "b" .`},
		{"<!--a----->b", `!"a---" "b" .`},
		{"<!--a---b-->", `!"a---b" .`},
		{"<!--a-- -->", `!"a-- " .`},
		{"<!--a--\x00-->", "nul@7 !\"a--\ufffd\" ."},
		{"<!--a--", `end-in-comment@7 !"a" .`},
		{"<!--a---", `end-in-comment@8 !"a-" .`},
		{"<!----->", `!"-" .`},
		{"<!----a-->", `!"--a" .`},
		{"<!----", `end-in-comment@6 !"" .`},
	})
}

func TestBang(t *testing.T) {
	check(t, []example{
		{"<!--a--!>b", `bang@8 !"a" "b" .`},
		{"<!----!>", `bang@7 !"" .`},
		{"<!--a---!>", `bang@9 !"a-" .`},
		{"<!--a--!b-->", `!"a--!b" .`},
		{"<!--a--!!>-->", `!"a--!!>" .`},
		{"<!--a--!-->", `!"a--!" .`},
		{"<!--a--!->-->", `!"a--!->" .`},
		{"<!--a--!-b-->", `!"a--!-b" .`},
		{"<!--a--!--!>", `bang@11 !"a--!" .`},
		{"<!--a--!\x00-->", "nul@8 !\"a--!\ufffd\" ."},
		{"<!--a--!", `end-in-comment@8 !"a" .`},
		{"<!--a--!-", `end-in-comment@9 !"a--!" .`},
	})
}

// A comment leads to DATA, whatever the last start tag was.
func TestStateBehindComments(t *testing.T) {
	for _, text := range []string{"<!-->", "<!--->", "<!--a-->", "<!--a--!>", "<!a>", "<?a>", "</1>"} {
		tokens := spell(inPieces(t, "<title></title>"+text+"<b>&"))
		if !strings.HasSuffix(tokens, ` <b[] "&" .`) {
			t.Errorf("%q: %s", text, tokens)
		}
	}
}
