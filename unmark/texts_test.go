package unmark

import "testing"

func TestData(t *testing.T) {
	check(t, []example{
		{"a > b", `"a > b" .`},
		{"a/=\"'`!?-b", "\"a/=\\\"'`!?-b\" ."},
		{"a\x00b", `nul@1 "a\x00b" .`},
		{"\x00\x00", `nul@0 nul@1 "\x00\x00" .`},
		{"a<b>c", `"a" <b[] "c" .`},
	})
}

func TestOpen(t *testing.T) {
	check(t, []example{
		{"<a>", `<a[] .`},
		{"<A>", `<a[] .`},
		{"<z><Z>", `<z[] <z[] .`},
		{"<@><[><`><{>", "first@1 first@4 first@7 first@10 \"<@><[><`><{>\" ."},
		{"<", `end-in-tag@1 "<" .`},
		{"a<", `end-in-tag@2 "a<" .`},
		{"<<", `first@1 end-in-tag@2 "<<" .`},
		{"<<a>", `first@1 "<" <a[] .`},
		{"<>", `first@1 "<>" .`},
		{"< a>", `first@1 "< a>" .`},
		{"<1>", `first@1 "<1>" .`},
		{"<\x00", `first@1 nul@1 "<\x00" .`},
		{"<\u212a>", "first@1 \"<\u212a>\" ."},
		{"a<?b>c", `question@2 "a" !"?b" "c" .`},
		{"<?a><?b>", `question@1 !"?a" question@5 !"?b" .`},
		{"<?", `question@1 !"?" .`},
		{"<?\x00", "question@1 nul@2 !\"?\ufffd\" ."},
	})
}

func TestClose(t *testing.T) {
	check(t, []example{
		{"</a>", `</a .`},
		{"</Z>", `</z .`},
		{"x</>y", `no-name@3 "xy" .`},
		{"</", `end-in-tag@2 "</" .`},
		{"a</", `end-in-tag@3 "a</" .`},
		{"a</ b>c", `first@3 "a" !" b" "c" .`},
		{"</1", `first@2 !"1" .`},
		{"<//>", `first@2 !"/" .`},
		{"</\x00>", "first@2 nul@2 !\"\ufffd\" ."},
	})
}

func TestTitleAndRaw(t *testing.T) {
	for _, name := range []string{"title", "textarea", "script", "style", "xmp"} {
		open, n := "<"+name+">", len(name)+2
		begun := "<" + name + "[] "
		check(t, []example{
			{open + "a > \"b\"='c'/!?-", begun + `"a > \"b\"='c'/!?-" .`},
			{open + "\x00a\x00", begun + wrongs("nul", n, "nul", n+2) + "\"\ufffda\ufffd\" ."},
			{open + "\r\n\xff\u00e9", begun + "\"\\n\ufffd\u00e9\" ."},
			{open, begun + "."},
			{open + "<b c='d'>e</b>", begun + `"<b c='d'>e</b>" .`},
			{open + "<!--a--><!doctype b><?c></ d></>", begun + `"<!--a--><!doctype b><?c></ d></>" .`},
			{open + "a</" + name + ">b<c>", begun + `"a" </` + name + ` "b" <c[] .`},
			{open + "</" + name + ">\x00", begun + "</" + name + " " + wrongs("nul", 2*n+1) + `"\x00" .`},
		})
	}
}

func TestLess(t *testing.T) {
	check(t, []example{
		{"<title>a<", `<title[] "a<" .`},
		{"<title><b", `<title[] "<b" .`},
		{"<title><<</title>", `<title[] "<<" </title .`},
		{"<title><\x00", "<title[] nul@8 \"<\ufffd\" ."},
		{"<xmp>a<", `<xmp[] "a<" .`},
		{"<xmp>< /xmp>", `<xmp[] "< /xmp>" .`},
		{"<xmp><\x00", "<xmp[] nul@6 \"<\ufffd\" ."},
	})
}

func TestLessClose(t *testing.T) {
	check(t, []example{
		{"<title>a</", `<title[] "a</" .`},
		{"<title></>", `<title[] "</>" .`},
		{"<title></ title>", `<title[] "</ title>" .`},
		{"<title></1</title>", `<title[] "</1" </title .`},
		{"<title></</title>", `<title[] "</" </title .`},
		{"<title><//title>", `<title[] "<//title>" .`},
		{"<title></\x00", "<title[] nul@9 \"</\ufffd\" ."},
		{"<xmp></", `<xmp[] "</" .`},
		{"<xmp></\u212a</xmp>", "<xmp[] \"</\u212a\" </xmp ."},
		{"<xmp></\x00", "<xmp[] nul@7 \"</\ufffd\" ."},
	})
}

func TestLessName(t *testing.T) {
	check(t, []example{
		{"<title></TiTlE>", `<title[] </title .`},
		{"<TITLE></title>", `<title[] </title .`},
		{"<title></title\t><title></title\n><title></title\f><title></title ><title></title\r>",
			`<title[] </title <title[] </title <title[] </title <title[] </title <title[] </title .`},
		{"<title></title\v></title>", `<title[] "</title\v>" </title .`},
		{"<title></title", `<title[] "</title" .`},
		{"<title></TiT", `<title[] "</TiT" .`},
		{"<title></title\x00>", "<title[] nul@14 \"</title\ufffd>\" ."},
		{"<title></title</title>", `<title[] "</title" </title .`},
		{"<title></Tit</title>", `<title[] "</Tit" </title .`},
		{"<title></a</B</title>", `<title[] "</a</B" </title .`},
		{"<title></titl\u00c9></title>", "<title[] \"</titl\u00c9>\" </title ."},
		{"<xmp></Script></xmp1></XMP>", `<xmp[] "</Script></xmp1>" </xmp .`},
		{"<xmp></xmp\x00>", "<xmp[] nul@10 \"</xmp\ufffd>\" ."},
	})
}

// Only the end tag of the last start tag is one in TITLE and RAW.
func TestLastStartTag(t *testing.T) {
	check(t, []example{
		{"<title></textarea></title>", `<title[] "</textarea>" </title .`},
		{"<textarea></title></textarea>", `<textarea[] "</title>" </textarea .`},
		{"<script></style></xmp></script>", `<script[] "</style></xmp>" </script .`},
		{"<title></titles></titl></title>", `<title[] "</titles></titl>" </title .`},
		{"<script></scripts ></scripts/></scrip ></scrip/></script>", `<script[] "</scripts ></scripts/></scrip ></scrip/>" </script .`},
		{"<xmp></Titles b=c></xmp>", `<xmp[] "</Titles b=c>" </xmp .`},
		{"<a><title></a></title>", `<a[] <title[] "</a>" </title .`},
		{"<title></title><xmp></title></xmp>", `<title[] </title <xmp[] "</title>" </xmp .`},
		{"<title></title><b></title></c>", `<title[] </title <b[] </title </c .`},
		{"</title><b>", `</title <b[] .`},
	})
}

// What follows the name of such an end tag is read as in any other.
func TestRestOfLastEndTag(t *testing.T) {
	check(t, []example{
		{"<title>a</title b='c' d>e", `<title[] end-attributes@23 "a" </title "e" .`},
		{"<title></title/>", `<title[] end-slash@15 </title .`},
		{"<title></title />", `<title[] end-slash@16 </title .`},
		{"<xmp></xmp/a>", `<xmp[] slash@11 end-attributes@12 </xmp .`},
		{"<xmp></xmp a/>", `<xmp[] end-attributes@13 end-slash@13 </xmp .`},
		{"<xmp></xmp b='</xmp>'>c", `<xmp[] end-attributes@21 </xmp "c" .`},
		{"<xmp>a</xmp ", `<xmp[] end-in-tag@12 "a" .`},
		{"<xmp>a</xmp/", `<xmp[] end-in-tag@12 "a" .`},
		{"<xmp>a</xmp b=\"</xmp>", `<xmp[] end-in-tag@21 "a" .`},
		{"<title/>a</title>", `<title[]* "a" </title .`},
		{"<title b='</title>'></title>", `<title["b" "</title>"] </title .`},
	})
}

// A Wrong does not part a text, whichever states it goes through.
func TestTextsThatGoOn(t *testing.T) {
	check(t, []example{
		{"<xmp>a\x00b</c\x00d<", "<xmp[] nul@6 nul@11 \"a\ufffdb</c\ufffdd<\" ."},
		{"a</>b<1>c<", `no-name@3 first@6 end-in-tag@10 "ab<1>c<" .`},
	})
}
