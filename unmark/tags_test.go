package unmark

import "testing"

func TestData(t *testing.T) {
	check(t, []example{
		{"a > b", `"a > b" .`},
		{"a/=\"'`!?-b", "\"a/=\\\"'`!?-b\" ."},
		{"a\x00b", `nul@1 "a\x00b" .`},
		{"\x00\x00", `nul@0 nul@1 "\x00\x00" .`},
		{"a<b>c", `"a" <b[] "c" .`},
	})
}

func TestOpen(t *testing.T) {
	check(t, []example{
		{"<a>", `<a[] .`},
		{"<A>", `<a[] .`},
		{"<z><Z>", `<z[] <z[] .`},
		{"<@><[><`><{>", "first@1 first@4 first@7 first@10 \"<@><[><`><{>\" ."},
		{"<", `end-in-tag@1 "<" .`},
		{"a<", `end-in-tag@2 "a<" .`},
		{"<<", `first@1 end-in-tag@2 "<<" .`},
		{"<<a>", `first@1 "<" <a[] .`},
		{"<>", `first@1 "<>" .`},
		{"< a>", `first@1 "< a>" .`},
		{"<1>", `first@1 "<1>" .`},
		{"<\x00", `first@1 nul@1 "<\x00" .`},
		{"<\u212a>", "first@1 \"<\u212a>\" ."},
		{"a<?b>c", `question@2 "a" !"?b" "c" .`},
		{"<?a><?b>", `question@1 !"?a" question@5 !"?b" .`},
		{"<?", `question@1 !"?" .`},
		{"<?\x00", "question@1 nul@2 !\"?\ufffd\" ."},
	})
}

// Of declarations only those that are nothing else are built.
func TestDeclarations(t *testing.T) {
	check(t, []example{
		{"a<!b>c", `declaration@3 "a" !"b" "c" .`},
		{"<!>", `declaration@2 !"" .`},
		{"<!", `declaration@2 !"" .`},
		{"<!\x00", "declaration@2 nul@2 !\"\ufffd\" ."},
	})
}

func TestClose(t *testing.T) {
	check(t, []example{
		{"</a>", `</a .`},
		{"</Z>", `</z .`},
		{"x</>y", `no-name@3 "xy" .`},
		{"</", `end-in-tag@2 "</" .`},
		{"a</", `end-in-tag@3 "a</" .`},
		{"a</ b>c", `first@3 "a" !" b" "c" .`},
		{"</1", `first@2 !"1" .`},
		{"<//>", `first@2 !"/" .`},
		{"</\x00>", "first@2 nul@2 !\"\ufffd\" ."},
	})
}

func TestTag(t *testing.T) {
	check(t, []example{
		{"<aB1-:_>", `<ab1-:_[] .`},
		{"<a\u00c9\u212a>", "<a\u00c9\u212a[] ."},
		{"<a\tb><a\nb><a\fb><a b><a\rb>", `<a["b" ""] <a["b" ""] <a["b" ""] <a["b" ""] <a["b" ""] .`},
		{"<a\vb><a\u00a0b>", "<a\vb[] <a\u00a0b[] ."},
		{"<a\x00B>", "nul@2 <a\ufffdb[] ."},
		{"<a<b>", `<a<b[] .`},
		{"<a=\"'>", `<a="'[] .`},
		{"<a", `end-in-tag@2 .`},
		{"x<a", `end-in-tag@3 "x" .`},
		{"</a", `end-in-tag@3 .`},
	})
}

func TestSelf(t *testing.T) {
	check(t, []example{
		{"<a/>", `<a[]* .`},
		{"<a />", `<a[]* .`},
		{"<a b/>", `<a["b" ""]* .`},
		{"<a b='c'/>", `<a["b" "c"]* .`},
		{"<a/b>", `slash@3 <a["b" ""] .`},
		{"<a/ >", `slash@3 <a[] .`},
		{"<a//>", `slash@3 <a[]* .`},
		{"<a/=>", `slash@3 equals@3 <a["=" ""] .`},
		{"<a/\x00>", "slash@3 nul@3 <a[\"\ufffd\" \"\"] ."},
		{"<a/", `end-in-tag@3 .`},
		{"<a/><b>", `<a[]* <b[] .`},
	})
}

func TestEndTags(t *testing.T) {
	check(t, []example{
		{"</a >", `</a .`},
		{"</a/>", `end-slash@4 </a .`},
		{"</a b>", `end-attributes@5 </a .`},
		{"</a b='c' d=e>", `end-attributes@13 </a .`},
		{"</a b/>", `end-attributes@6 end-slash@6 </a .`},
		{"</a/b>", `slash@4 end-attributes@5 </a .`},
		{"</a b b>", `twice@7 end-attributes@7 </a .`},
		{"</a b=>", `no-value@6 end-attributes@6 </a .`},
		{"x</a b/>y", `end-attributes@7 end-slash@7 "x" </a "y" .`},
		{"</a b></a>", `end-attributes@5 </a </a .`},
	})
}

// What a start tag leads to hangs on its name; an end tag leads to DATA.
func TestStatesBehindTags(t *testing.T) {
	for _, c := range []struct {
		text string
		want state
	}{
		{"<title>", inTitle}, {"<TextArea a='b'>", inTitle}, {"<title/>", inTitle},
		{"<script>", inRaw}, {"<STYLE >", inRaw}, {"<xmp>", inRaw},
		{"<a>", inData}, {"<titles>", inData}, {"<a title>", inData}, {"<scrip>", inData},
		{"</title>", inData}, {"</script>", inData}, {"<title></title>", inData},
	} {
		x := New(100)
		if err := x.Write(c.text); err != nil || x.state != c.want {
			t.Errorf("%q: %v, in the state %d, want %d", c.text, err, x.state, c.want)
		}
	}
}
