package unmark

import "unicode/utf8"

// lookInRefHash is behind `&#`, where an x makes it a number in sixteens.
func (t *Tokenizer) lookInRefHash(c rune) verdict {
	if low(c) == 'x' {
		t.reference.come += string(c)
		t.reference.sixteens = true
		return t.to(inRefNumber)
	}
	return t.again(inRefNumber)
}

func (t *Tokenizer) lookInRefNumber(c rune) verdict {
	r := &t.reference
	if r.isDigit(c) {
		r.addDigit(c)
		return taken
	}
	if !r.hasDigits {
		t.wrong("digits")
		return t.leaveAsItIs()
	}
	if c == ';' {
		t.endNumber(t.place + 1) // its errors are at what comes, which need not be waited for
		return t.to(r.back)
	}
	t.wrong("semicolon")
	t.endNumber(t.place)
	return t.again(r.back)
}

func (r *reference) isDigit(c rune) bool {
	return isDigit(c) || r.sixteens && 'a' <= low(c) && low(c) <= 'f'
}

func (r *reference) addDigit(c rune) {
	r.hasDigits = true
	if r.number > utf8.MaxRune {
		return // too great already; any more digits might wrap it round
	}
	base := rune(10)
	if r.sixteens {
		base = 16
	}
	r.number = r.number*base + digitValue(c)
}

func digitValue(c rune) rune {
	if isDigit(c) {
		return c - '0'
	}
	return low(c) - 'a' + 10
}

// endNumber puts what the number means to the target, with an error at place
// if it is wrong.
func (t *Tokenizer) endNumber(place int) {
	c, problem := meaningOf(t.reference.number)
	if problem != "" {
		t.wrongAt(problem, place)
	}
	t.addToTarget(string(c))
}

// meaningOf tells the code point that a number means, and what is wrong with
// it, which is empty if nothing is.
func meaningOf(number rune) (c rune, problem string) {
	switch {
	case number == 0:
		return utf8.RuneError, "nul"
	case number > utf8.MaxRune:
		return utf8.RuneError, "range"
	case isSurrogate(number):
		return utf8.RuneError, "surrogate"
	case isNone(number):
		return number, "none"
	case isControl(number):
		return meaningOfControl(number), "control"
	}
	return number, ""
}

func isSurrogate(c rune) bool {
	return 0xD800 <= c && c <= 0xDFFF
}

// isNone tells whether c never is a character: the last two of each row of
// 10000 (in sixteens) are not, nor are those of one range.
func isNone(c rune) bool {
	return 0xFDD0 <= c && c <= 0xFDEF || c&0xFFFE == 0xFFFE
}

// isControl leaves out the blanks; U+000D is none of them.
func isControl(c rune) bool {
	return 1 <= c && c <= 0x1F && !isBlank(c) || 0x7F <= c && c <= 0x9F
}

// fromWindows has what old pages mean by the numbers from 80 (in sixteens) on;
// 0 stands for nothing.
var fromWindows = [...]rune{
	0x20AC, 0, 0x201A, 0x192, 0x201E, 0x2026, 0x2020, 0x2021,
	0x2C6, 0x2030, 0x160, 0x2039, 0x152, 0, 0x17D, 0,
	0, 0x2018, 0x2019, 0x201C, 0x201D, 0x2022, 0x2013, 0x2014,
	0x2DC, 0x2122, 0x161, 0x203A, 0x153, 0, 0x17E, 0x178,
}

func meaningOfControl(c rune) rune {
	if c >= 0x80 && fromWindows[c-0x80] != 0 {
		return fromWindows[c-0x80]
	}
	return c
}
