package unmark

const nul = '\x00'

// theEnd is looked at behind the last code point; no code point is below 0.
const theEnd rune = -1

func isLetter(c rune) bool {
	return 'a' <= low(c) && low(c) <= 'z'
}

func isDigit(c rune) bool {
	return '0' <= c && c <= '9'
}

func isBlank(c rune) bool {
	return c == '\t' || c == '\n' || c == '\f' || c == ' '
}

// low leaves letters beyond A to Z as they are, unlike the library's.
func low(c rune) rune {
	if 'A' <= c && c <= 'Z' {
		return c - 'A' + 'a'
	}
	return c
}
