package unmark

import (
	"fmt"
	"strings"
	"testing"
)

// checkNumber tries a number in tens and in sixteens, with and without `;`.
// The problem is what is wrong with it, and empty if nothing is.
func checkNumber(t *testing.T, number, becomes rune, problem string) {
	t.Helper()
	for _, form := range []string{"&#%d", "&#x%x", "&#X%X", "&#00%d", "&#x00%x"} {
		open := fmt.Sprintf(form, number)
		var closed, cut []any
		cut = append(cut, "semicolon", len(open))
		if problem != "" {
			closed = append(closed, problem, len(open)+1)
			cut = append(cut, problem, len(open))
		}
		checkIn(t, targets, open+";", string(becomes), closed...)
		checkIn(t, targets, open, string(becomes), cut...)
		checkIn(t, texts, open+";9;", string(becomes)+"9;", closed...)
		checkIn(t, texts, open+"-", string(becomes)+"-", cut...)
	}
}

// Each error's first and last number, and their neighbours.
func TestNumbersAndTheirErrors(t *testing.T) {
	for _, c := range []struct {
		number  rune
		problem string
	}{
		{0x1, "control"}, {0x8, "control"}, {0x9, ""}, {0xA, ""}, {0xB, "control"}, {0xC, ""}, {0xD, "control"}, {0xE, "control"},
		{0x1F, "control"}, {0x20, ""}, {'0', ""}, {'A', ""}, {'z', ""}, {'&', ""}, {'<', ""}, {'"', ""}, {'\'', ""}, {'>', ""},
		{0x7E, ""}, {0x7F, "control"}, {0xA0, ""}, {0xAD, ""}, {0x2028, ""},
		{0xD7FF, ""}, {0xE000, ""}, {0xFDCF, ""}, {0xFDD0, "none"}, {0xFDE0, "none"}, {0xFDEF, "none"}, {0xFDF0, ""}, {0xFEFF, ""},
		{0xFFFD, ""}, {0xFFFE, "none"}, {0xFFFF, "none"}, {0x10000, ""}, {0x1FDD0, ""}, {0x1D800, ""}, {0x1F600, ""},
		{0x10FFFD, ""}, {0x10FFFE, "none"}, {0x10FFFF, "none"},
	} {
		checkNumber(t, c.number, c.number, c.problem)
	}
	for _, c := range []struct {
		number  rune
		problem string
	}{
		{0, "nul"}, {0xD800, "surrogate"}, {0xDBFF, "surrogate"}, {0xDC00, "surrogate"}, {0xDFFF, "surrogate"},
		{0x110000, "range"}, {0x110001, "range"}, {0x11FFFE, "range"}, {0x1000000, "range"}, {0x7FFFFFFF, "range"},
	} {
		checkNumber(t, c.number, '\ufffd', c.problem)
	}
}

// FFFE and FFFF are none in each row of 10000 (in sixteens).
func TestLastNumbersOfEachRow(t *testing.T) {
	for row := rune(0); row <= 0x10; row++ {
		for last := rune(0xFFFC); last <= 0xFFFF; last++ {
			c := row<<16 + last
			want := fmt.Sprintf("%q .", string(c))
			written := fmt.Sprintf("&#x%x;", c)
			if last >= 0xFFFE {
				want = wrongs("none", len(written)) + want
			}
			check(t, []example{{written, want}})
		}
	}
}

// All other numbers below 20000 (in sixteens) mean the code point of that number.
func TestPlainNumbers(t *testing.T) {
	for c := rune(0xA0); c < 0x20000; c++ {
		if isWithin(c, 0xD800, 0xDFFF) || isWithin(c, 0xFDD0, 0xFDEF) || c%0x10000 >= 0xFFFE {
			continue
		}
		want := fmt.Sprintf("%q .", string(c))
		if got := spell(inPieces(t, fmt.Sprintf("&#%d;", c))); got != want {
			t.Errorf("the number %x: %s, want %s", c, got, want)
		}
	}
}

func TestControls(t *testing.T) {
	for c := rune(1); c < 0x20; c++ {
		if c != 0x9 && c != 0xA && c != 0xC {
			checkNumber(t, c, c, "control")
		}
	}
	const means = "\u20ac\x00\u201a\u0192\u201e\u2026\u2020\u2021\u02c6\u2030\u0160\u2039\u0152\x00\u017d\x00" +
		"\x00\u2018\u2019\u201c\u201d\u2022\u2013\u2014\u02dc\u2122\u0161\u203a\u0153\x00\u017e\u0178"
	for i, becomes := range []rune(means) {
		c := rune(0x80 + i)
		if becomes == 0 {
			becomes = c
		}
		checkNumber(t, c, becomes, "control")
	}
}

func TestNumbersWithoutDigits(t *testing.T) {
	for _, begun := range []string{"&#", "&#x", "&#X"} {
		for _, rest := range append(otherSigns(), "", ";", ";65;", "g", "G", "z", "Z", "-1;", "+1;", " 65;", "=", "\n", "\"", "'", ">", "`") {
			checkIn(t, texts, begun+rest, begun+rest, "digits", len(begun))
		}
		for _, rest := range append(otherSigns(), "", ";", ";65;", "g", "G", "z", "-1;") {
			checkIn(t, values, begun+rest, begun+rest, "digits", len(begun))
		}
		checkIn(t, values[:2], begun+"=", begun+"=", "digits", len(begun))
		checkIn(t, values[2:], begun+"=", begun+"=", "digits", len(begun), "sign", len(begun))
		checkIn(t, targets, begun+"&#65;", begun+"A", "digits", len(begun))
		checkIn(t, targets, begun+"\u0660;", begun+"\u0660;", "digits", len(begun))
	}
	for _, rest := range []string{"a", "f", "A", "F", "y", "amp;", "lt"} {
		checkIn(t, targets, "&#"+rest, "&#"+rest, "digits", 2)
	}
	checkIn(t, targets, "&#xx41;", "&#xx41;", "digits", 3)
	checkIn(t, targets, "&#xX41;", "&#xX41;", "digits", 3)
	checkIn(t, targets, "&##65;", "&##65;", "digits", 2)
}

func TestDigits(t *testing.T) {
	checkIn(t, targets, "&#9876;", "\u2694")
	checkIn(t, targets, "&#1023;&#0054;", "\u03ff6")
	checkIn(t, targets, "&#x89aB;&#xcDeF;&#X4567;&#x123;", "\u89ab\ucdef\u4567\u0123")
	checkIn(t, targets, "&#65a;", "Aa;", "semicolon", 4)
	checkIn(t, targets, "&#65F;", "AF;", "semicolon", 4)
	checkIn(t, targets, "&#x41g;", "Ag;", "semicolon", 5)
	checkIn(t, targets, "&#x41x41;", "Ax41;", "semicolon", 5)
	checkIn(t, targets, "&#65x41;", "Ax41;", "semicolon", 4)
	checkIn(t, targets, "&#65\u0660;", "A\u0660;", "semicolon", 4)
	checkIn(t, targets, "&#65;;", "A;")
	for _, rest := range append(otherSigns(), "g", "G", "z", "Z") {
		checkIn(t, targets, "&#65"+rest, "A"+rest, "semicolon", 4)
		checkIn(t, targets, "&#x41"+rest, "A"+rest, "semicolon", 5)
	}
	// Unlike a name, a number in a value is one with `=`, a letter or a digit behind it, too.
	checkIn(t, texts, "&#65=", "A=", "semicolon", 4)
	checkIn(t, values[:2], "&#65=", "A=", "semicolon", 4)
	checkIn(t, values[2:], "&#65=", "A=", "semicolon", 4, "sign", 4)
}

// Numbers that would wrap round in one of the integer kinds are too great, too.
func TestNumbersTooGreatForAnyInteger(t *testing.T) {
	for _, number := range []string{
		"99999999999999999999", "2147483648", "2147483713", "4294967296", "4294967361", "8589934657",
		"9223372036854775808", "9223372036854775873", "18446744073709551616", "18446744073709551681",
		"340282366920938463463374607431768211521", strings.Repeat("9", 1000), "1" + strings.Repeat("0", 1000), "11141120", "11141110", "1114112",
	} {
		checkRange(t, "&#"+number)
	}
	for _, number := range []string{
		"80000000", "80000041", "100000000", "100000041", "8000000000000041", "10000000000000041",
		"100000000000000000000000000000041", strings.Repeat("f", 1000), "1" + strings.Repeat("0", 1000), "1100000", "10ffff0", "110000",
	} {
		checkRange(t, "&#x"+number)
		checkRange(t, "&#X"+number)
	}
}

func checkRange(t *testing.T, open string) {
	t.Helper()
	for _, x := range targets {
		end := len(x.begin + open)
		told := fmt.Sprintf(x.behind, "\ufffd")
		for written, errors := range map[string]string{
			open + ";": wrongs("range", end+1),
			open:       wrongs("semicolon", end, "range", end),
		} {
			if got := spell(inPieces(t, x.begin+written+x.end)); got != x.before+errors+told {
				t.Errorf("%.60q: %s", x.begin+written, got)
			}
		}
	}
}

// A number may be of any length; digits ahead of it that are 0 do not count.
func TestLongNumbers(t *testing.T) {
	zeros := strings.Repeat("0", 300000)
	for written, want := range map[string]string{
		"&#" + zeros + "65;":  `"A" .`,
		"&#x" + zeros + "41;": `"A" .`,
		"&#" + zeros + ";":    wrongs("nul", len(zeros)+3) + "\"\ufffd\" .",
		"&#x" + zeros:         wrongs("semicolon", len(zeros)+3, "nul", len(zeros)+3) + "\"\ufffd\" .",
		"&#1" + zeros + ";":   wrongs("range", len(zeros)+4) + "\"\ufffd\" .",
	} {
		if got := spell(inPieces(t, written)); got != want {
			t.Errorf("P1: a number of %d signs: %.60s, want %s", len(written), got, want)
		}
		if got := spell(inPieces(t, eachByte(written)...)); got != want {
			t.Errorf("P1: a number of %d signs, byte by byte: %.60s, want %s", len(written), got, want)
		}
	}
}
