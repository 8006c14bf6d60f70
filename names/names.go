// Package names tells which texts are names of the language (chapter 2): the lexer, the tree and the
// commands ask the same.
package names

import "hindsight/chars"

// Keyword reports whether a text is a keyword.
func Keyword(s string) bool {
	switch s {
	case "type", "of", "let", "rec", "in", "fun", "if", "then", "else", "match", "with", "end",
		"ref", "print", "read", "raise", "try", "true", "false":
		return true
	}
	return false
}

// Starts reports whether a rune may begin a name or a constructor name.
func Starts(r rune) bool {
	return r != '\'' && chars.Class(r) == 1
}

// Goes reports whether a rune may stand behind the first one.
func Goes(r rune) bool {
	c := chars.Class(r)
	return c == 1 || c == 2
}

// Lower reports whether a text has the form of a name (a keyword has it too).
func Lower(s string) bool {
	return shaped(s) && !chars.Upper(s)
}

// Plain reports whether a text may name a variable or a type.
func Plain(s string) bool {
	return Lower(s) && s != "_" && !Keyword(s)
}

// Con reports whether a text is a constructor name.
func Con(s string) bool {
	return shaped(s) && chars.Upper(s)
}

func shaped(s string) bool {
	for i, r := range s {
		if i == 0 && !Starts(r) || !Goes(r) {
			return false
		}
	}
	return s != ""
}
