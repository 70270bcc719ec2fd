package unmark

import "testing"

func TestTag(t *testing.T) {
	check(t, []example{
		{"<aB1-:_>", `<ab1-:_[] .`},
		{"<a\u00c9\u212a>", "<a\u00c9\u212a[] ."},
		{"<a\tb><a\nb><a\fb><a b><a\rb>", `<a["b" ""] <a["b" ""] <a["b" ""] <a["b" ""] <a["b" ""] .`},
		{"<a\vb><a\u00a0b>", "<a\vb[] <a\u00a0b[] ."},
		{"<a\x00B>", "nul@2 <a\ufffdb[] ."},
		{"<a<b>", `<a<b[] .`},
		{"<a=\"'>", `<a="'[] .`},
		{"<a", `end-in-tag@2 .`},
		{"x<a", `end-in-tag@3 "x" .`},
		{"</a", `end-in-tag@3 .`},
	})
}

func TestSelf(t *testing.T) {
	check(t, []example{
		{"<a/>", `<a[]* .`},
		{"<a />", `<a[]* .`},
		{"<a b/>", `<a["b" ""]* .`},
		{"<a b='c'/>", `<a["b" "c"]* .`},
		{"<a/b>", `slash@3 <a["b" ""] .`},
		{"<a/ >", `slash@3 <a[] .`},
		{"<a//>", `slash@3 <a[]* .`},
		{"<a/=>", `slash@3 equals@3 <a["=" ""] .`},
		{"<a/\x00>", "slash@3 nul@3 <a[\"\ufffd\" \"\"] ."},
		{"<a/", `end-in-tag@3 .`},
		{"<a/><b>", `<a[]* <b[] .`},
	})
}

func TestEndTags(t *testing.T) {
	check(t, []example{
		{"</a >", `</a .`},
		{"</a/>", `end-slash@4 </a .`},
		{"</a b>", `end-attributes@5 </a .`},
		{"</a b='c' d=e>", `end-attributes@13 </a .`},
		{"</a b/>", `end-attributes@6 end-slash@6 </a .`},
		{"</a/b>", `slash@4 end-attributes@5 </a .`},
		{"</a b b>", `twice@7 end-attributes@7 </a .`},
		{"</a b=>", `no-value@6 end-attributes@6 </a .`},
		{"x</a b/>y", `end-attributes@7 end-slash@7 "x" </a "y" .`},
		{"</a b></a>", `end-attributes@5 </a </a .`},
	})
}

// What a start tag leads to hangs on its name; an end tag leads to DATA.
func TestStatesBehindTags(t *testing.T) {
	for _, c := range []struct {
		text string
		want state
	}{
		{"<title>", inTitle}, {"<TextArea a='b'>", inTitle}, {"<title/>", inTitle},
		{"<script>", inRaw}, {"<STYLE >", inRaw}, {"<xmp>", inRaw},
		{"<a>", inData}, {"<titles>", inData}, {"<a title>", inData}, {"<scrip>", inData},
		{"</title>", inData}, {"</script>", inData}, {"<title></title>", inData},
	} {
		x := New(100)
		if err := x.Write(c.text); err != nil || x.state != c.want {
			t.Errorf("%q: %v, in the state %d, want %d", c.text, err, x.state, c.want)
		}
	}
}
