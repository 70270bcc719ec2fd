package unmark

import "testing"

func TestDoctype(t *testing.T) {
	check(t, []example{
		{"<!doctype html>", `!!html .`},
		{"<!DOCTYPE html><!DoCtYpE html>", `!!html !!html .`},
		{"a<!doctype b>c", `"a" !!b "c" .`},
		{"<!doctype\ta><!doctype\na><!doctype\fa><!doctype\ra>", `!!a !!a !!a !!a .`},
		{"<!doctype>a", `no-name@9 !!* "a" .`},
		{"<!doctype", `end-in-doctype@9 !!* .`},
		{"a<!doctype", `end-in-doctype@10 "a" !!* .`},
		{"<!doctypehtml>", `no-blank@9 !!html .`},
		{"<!doctypeS>", `no-blank@9 !!s .`},
		{"<!doctype\v>", "no-blank@9 !!\v ."},
		{"<!doctype\x00>", "no-blank@9 nul@9 !!\ufffd ."},
		{"<!doctype--a-->", `no-blank@9 !!--a-- .`},
	})
}

func TestKind(t *testing.T) {
	check(t, []example{
		{"<!doctype \t\n\f\r\n a>", `!!a .`},
		{"<!doctype >a", `no-name@10 !!* "a" .`},
		{"<!doctype  \n>", `no-name@12 !!* .`},
		{"<!doctype \x00>", "nul@10 !!\ufffd ."},
		{"<!doctype ", `end-in-doctype@10 !!* .`},
		{"<!doctype A>", `!!a .`},
		{"<!doctype \u00c9>", "!!\u00c9 ."},
		{"<!doctype \"'<=/>", `!!"'<=/ .`},
	})
}

func TestKindName(t *testing.T) {
	check(t, []example{
		{"<!doctype hTmL\u00c9\u212a>a", "!!html\u00c9\u212a \"a\" ."},
		{"<!doctype a\t><!doctype a\n><!doctype a\f><!doctype a ><!doctype a\r>", `!!a !!a !!a !!a !!a .`},
		{"<!doctype a\x00B\x00>", "nul@11 nul@13 !!a\ufffdb\ufffd ."},
		{"<!doctype a<b\">", `!!a<b" .`},
		{"<!doctype ab", `end-in-doctype@12 !!ab* .`},
	})
}

func TestKindEnd(t *testing.T) {
	check(t, []example{
		{"<!doctype a \t\n\f\r>b", `!!a "b" .`},
		{"<!doctype a ", `end-in-doctype@12 !!a* .`},
		{"<!doctype a b>", `kind@12 !!a* .`},
		{"<!doctype a  \"b\">", `kind@13 !!a* .`},
		{"<!doctype a \x00>", `kind@12 nul@12 !!a* .`},
	})
}

func TestKindRest(t *testing.T) {
	check(t, []example{
		{"<!doctype a PUBLIC \"b'c\" <d>\">e", `kind@12 !!a* "\">e" .`},
		{"<!doctype a b\x00c\x00>", `kind@12 nul@13 nul@15 !!a* .`},
		{"<!doctype a b", `kind@12 !!a* .`},
		{"<!doctype a b\x00", `kind@12 nul@13 !!a* .`},
		{"<!doctype a b \u00e9\xff\r\n>", `kind@12 !!a* .`},
	})
}

// A doctype has nothing of the one ahead of it.
func TestDoctypesBehindOneAnother(t *testing.T) {
	check(t, []example{
		{"<!doctype a b><!doctype c>", `kind@12 !!a* !!c .`},
		{"<!doctype><!doctype a>", `no-name@9 !!* !!a .`},
		{"<!doctype a><!doctype>", `!!a no-name@21 !!* .`},
		{"<!doctype a><b><!--c--><!doctype D>", `!!a <b[] !"c" !!d .`},
	})
}
