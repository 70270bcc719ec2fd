package unmark

import (
	"strconv"
	"strings"
	"testing"
)

func TestAttr(t *testing.T) {
	check(t, []example{
		{"<a \t\n\f\r b>", `<a["b" ""] .`},
		{"<a >", `<a[] .`},
		{"<a ", `end-in-tag@3 .`},
		{"<a =>", `equals@3 <a["=" ""] .`},
		{"<a =B=c>", `equals@3 <a["=b" "c"] .`},
		{"<a ==b>", `equals@3 <a["=" "b"] .`},
		{"<a = =>", `equals@3 no-value@6 <a["=" ""] .`},
		{"<a = b>", `equals@3 <a["=" "" "b" ""] .`},
		{"<a \"b>", `sign@3 <a["\"b" ""] .`},
		{"<a =", `equals@3 end-in-tag@4 .`},
	})
}

func TestName(t *testing.T) {
	check(t, []example{
		{"<a bC\u00c9d>", "<a[\"bc\u00c9d\" \"\"] ."},
		{"<a b\tc\nd\fe f>", `<a["b" "" "c" "" "d" "" "e" "" "f" ""] .`},
		{"<a b\x00c>", "nul@4 <a[\"b\ufffdc\" \"\"] ."},
		{"<a b\"c'd<e>", `sign@4 sign@6 sign@8 <a["b\"c'd<e" ""] .`},
		{"<a b`c>", "<a[\"b`c\" \"\"] ."},
		{"<a b", `end-in-tag@4 .`},
		{"<a b=c>", `<a["b" "c"] .`},
	})
}

func TestAfter(t *testing.T) {
	check(t, []example{
		{"<a b \t\n\f c>", `<a["b" "" "c" ""] .`},
		{"<a b \t= c>", `<a["b" "c"] .`},
		{"<a b / c>", `slash@6 <a["b" "" "c" ""] .`},
		{"<a b >", `<a["b" ""] .`},
		{"<a b ", `end-in-tag@5 .`},
		{"<a b 'c>", `sign@5 <a["b" "" "'c" ""] .`},
		{"<a b \x00>", "nul@5 <a[\"b\" \"\" \"\ufffd\" \"\"] ."},
	})
}

func TestEquals(t *testing.T) {
	check(t, []example{
		{"<a b= \t\n\fc>", `<a["b" "c"] .`},
		{"<a b= \"c\">", `<a["b" "c"] .`},
		{"<a b= 'c'>", `<a["b" "c"] .`},
		{"<a b=>", `no-value@5 <a["b" ""] .`},
		{"<a b= >", `no-value@6 <a["b" ""] .`},
		{"<a b=", `end-in-tag@5 .`},
		{"<a b= ", `end-in-tag@6 .`},
		{"<a b=/>", `<a["b" "/"] .`},
		{"<a b=\x00>", "nul@5 <a[\"b\" \"\ufffd\"] ."},
		{"<a b==>", `sign@5 <a["b" "="] .`},
	})
}

func TestQuotes(t *testing.T) {
	check(t, []example{
		{"<a b=\"C 'd' <e> =/`\n\">", "<a[\"b\" \"C 'd' <e> =/`\\n\"] ."},
		{"<a b='C \"d\" <e> =/`\n'>", "<a[\"b\" \"C \\\"d\\\" <e> =/`\\n\"] ."},
		{"<a b=\"\" c=''>", `<a["b" "" "c" ""] .`},
		{"<a b=\"\x00\" c='\x00'>", "nul@6 nul@12 <a[\"b\" \"\ufffd\" \"c\" \"\ufffd\"] ."},
		{"<a b=\"c", `end-in-tag@7 .`},
		{"<a b='c", `end-in-tag@7 .`},
		{"<a b=\"'", `end-in-tag@7 .`},
		{"x<a b=\">", `end-in-tag@8 "x" .`},
	})
}

func TestPlain(t *testing.T) {
	check(t, []example{
		{"<a b=C\u00c9 d>", "<a[\"b\" \"C\u00c9\" \"d\" \"\"] ."},
		{"<a b=c\td=e\nf=g\fh>", `<a["b" "c" "d" "e" "f" "g" "h" ""] .`},
		{"<a b=c/>", `<a["b" "c/"] .`},
		{"<a b=c\"'<=`d>", "sign@6 sign@7 sign@8 sign@9 sign@10 <a[\"b\" \"c\\\"'<=`d\"] ."},
		{"<a b=c\x00d>", "nul@6 <a[\"b\" \"c\ufffdd\"] ."},
		{"<a b=<>", `sign@5 <a["b" "<"] .`},
		{"<a b=`c>", "sign@5 <a[\"b\" \"`c\"] ."},
		{"<a b=c", `end-in-tag@6 .`},
		{"<a b=c ", `end-in-tag@7 .`},
		{"<a b=c =d>", `equals@7 <a["b" "c" "=d" ""] .`},
	})
}

func TestValue(t *testing.T) {
	check(t, []example{
		{"<a b='c' d=\"e\"\tf>", `<a["b" "c" "d" "e" "f" ""] .`},
		{"<a b='c' =d>", `equals@9 <a["b" "c" "=d" ""] .`},
		{"<a b='c'd>", `no-blank@8 <a["b" "c" "d" ""] .`},
		{"<a b=\"c\"\"d>", `no-blank@8 sign@8 <a["b" "c" "\"d" ""] .`},
		{"<a b=''=>", `no-blank@7 equals@7 <a["b" "" "=" ""] .`},
		{"<a b=''/c>", `slash@8 <a["b" "" "c" ""] .`},
		{"<a b=''", `end-in-tag@7 .`},
		{"<a b=''\x00>", "no-blank@7 nul@7 <a[\"b\" \"\" \"\ufffd\" \"\"] ."},
	})
}

func TestNamesThatComeTwice(t *testing.T) {
	check(t, []example{
		{"<a b=1 b=2 c=3>", `twice@8 <a["b" "1" "c" "3"] .`},
		{"<a b B b=''>", `twice@6 twice@8 <a["b" ""] .`},
		{"<a b b>", `twice@6 <a["b" ""] .`},
		{"<a b b/>", `twice@6 <a["b" ""]* .`},
		{"<a b b = c>", `twice@6 <a["b" ""] .`},
		{"<a b b", `twice@6 end-in-tag@6 .`},
		{"<a b b=\"\x00\" b=`>", "twice@6 nul@8 twice@12 sign@13 <a[\"b\" \"\"] ."},
		{"<a b b=>", `twice@6 no-value@7 <a["b" ""] .`},
		{"<a b\x00 b\ufffd>", "nul@4 twice@8 <a[\"b\ufffd\" \"\"] ."},
		{"<a \u00e9 \u00c9>", "<a[\"\u00e9\" \"\" \"\u00c9\" \"\"] ."},
		{"<a b bb b\u00e9>", "<a[\"b\" \"\" \"bb\" \"\" \"b\u00e9\" \"\"] ."},
		{"<a =/=>", `equals@3 slash@5 equals@5 twice@6 <a["=" ""] .`},
		{"<a b><a b>", `<a["b" ""] <a["b" ""] .`},
		{"</a b><a b>", `end-attributes@5 </a <a["b" ""] .`},
	})
}

// A tag may have very many attributes: they are not looked through for each.
func TestManyAttributes(t *testing.T) {
	const many = 200000
	var text strings.Builder
	text.WriteString("<a")
	for i := range many {
		text.WriteString(" b" + strconv.Itoa(i))
	}
	text.WriteString(">")
	tokens := inPieces(t, text.String())
	if len(tokens) != 2 || len(tokens[0].Attrs) != 2*many {
		t.Errorf("%d tokens, want a Start with %d attributes and a Finish", len(tokens), many)
	}
}
