// Package chars classifies runes and finds positions in a source text: see DOC.md, chapter 1.
package chars

import "unicode"

// The classes of runes.
const (
	other = iota
	letter
	digit
	space
	mark
)

// Class returns the class of a rune.
func Class(r rune) int {
	switch r {
	case '_', '\'':
		return letter
	case ' ', '\t', '\n', '\r':
		return space
	case '(', ')', ',', ';', '=', '<', '>', '+', '-', '*', '|', '!', ':':
		return mark
	}
	if r >= '0' && r <= '9' {
		return digit
	}
	if unicode.IsLetter(r) {
		return letter
	}
	return other
}

// Pos returns the line and the column of a byte offset, both counted from 1.
func Pos(s string, at int) (line, col int) {
	at = min(max(at, 0), len(s))
	line, col = 1, 1
	for i, r := range s {
		if i >= at {
			break
		}
		if r == '\n' {
			line, col = line+1, 1
		} else {
			col++
		}
	}
	return line, col
}

// Line returns the n-th line, counted from 1, without its line feed.
func Line(s string, n int) (string, bool) {
	line, from := 1, 0
	for i, r := range s {
		if r != '\n' {
			continue
		}
		if line == n {
			return s[from:i], true
		}
		line, from = line+1, i+1
	}
	if line != n {
		return "", false
	}
	return s[from:], true
}

// Runes counts the runes of a text.
func Runes(s string) int {
	n := 0
	for range s {
		n++
	}
	return n
}

// Upper reports whether the first rune is an upper-case letter.
func Upper(s string) bool {
	for _, r := range s {
		return unicode.IsUpper(r)
	}
	return false
}
