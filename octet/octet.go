// Package octet: Kinds of bytes: see doc/01-octet.md.
package octet

import "strings"

// Kinds that All takes. They begin at 1, so that a kind nobody set is none.
const (
	IsToken = iota + 1
	IsVisible
	IsBlank
	IsDigit
	IsHex
	IsText
)

// marks stand in a token beside letters and digits.
const marks = "!#$%&'*+-.^_`|~"

// Token: may c stand in a token?
func Token(c byte) bool {
	return letter(c) || Digit(c) || strings.IndexByte(marks, c) >= 0
}

// Visible: is c seen when it is printed?
func Visible(c byte) bool { return c >= 0x21 && c <= 0x7e }

// Blank: is c a space or a tab?
func Blank(c byte) bool { return c == ' ' || c == '\t' }

// Control: is c a control byte?
func Control(c byte) bool { return c < 0x20 || c == 0x7f }

// Digit: is c a decimal digit?
func Digit(c byte) bool { return c >= '0' && c <= '9' }

// Hex: the value of a hexadecimal digit; 0, false of any other byte.
func Hex(c byte) (int, bool) {
	switch {
	case Digit(c):
		return int(c - '0'), true
	case c >= 'a' && c <= 'f':
		return int(c-'a') + 10, true
	case c >= 'A' && c <= 'F':
		return int(c-'A') + 10, true
	}
	return 0, false
}

// Text: may c stand in a text?
func Text(c byte) bool { return Visible(c) || Blank(c) || c >= 0x80 }

// All: is each byte of s of one of these kinds? It goes by bytes, not runes:
// what comes from a client need not be UTF-8.
func All(s string, kinds ...int) bool {
	for i := range len(s) {
		if !oneOf(s[i], kinds) {
			return false
		}
	}
	return true
}

func oneOf(c byte, kinds []int) bool {
	for _, kind := range kinds {
		if is(c, kind) {
			return true
		}
	}
	return false
}

// is answers false of a kind that there isn't, so that it lets no byte through.
func is(c byte, kind int) bool {
	switch kind {
	case IsToken:
		return Token(c)
	case IsVisible:
		return Visible(c)
	case IsBlank:
		return Blank(c)
	case IsDigit:
		return Digit(c)
	case IsHex:
		_, ok := Hex(c)
		return ok
	case IsText:
		return Text(c)
	}
	return false
}

// letter knows the letters of ASCII alone: no other is one in a token.
func letter(c byte) bool {
	return c >= 'a' && c <= 'z' || c >= 'A' && c <= 'Z'
}
