package unmark

// Escape writes a text so that it is read as it is, as a text or between `"`
// as a value (P6). It goes byte by byte: the signs are one byte each, and no
// other code point has such a byte in it, so what is not well-formed stays.
func Escape(text string) string {
	var escaped []byte
	for i := range len(text) {
		escaped = appendEscaped(escaped, text[i])
	}
	return string(escaped)
}

func appendEscaped(escaped []byte, sign byte) []byte {
	switch sign {
	case '&':
		return append(escaped, "&amp;"...)
	case '<':
		return append(escaped, "&lt;"...)
	case '"':
		return append(escaped, "&quot;"...)
	case '\r':
		return append(escaped, "&#13;"...)
	case nul:
		return append(escaped, "&#0;"...)
	}
	return append(escaped, sign)
}
