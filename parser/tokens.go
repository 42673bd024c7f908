package parser

import (
	"strings"

	"witting/api"
)

// marks contains the signs of one byte.
const marks = "~&|()[],.!"

// Tokens divides a text into words and signs, with their positions: ErrLimit, ErrSyntax with the position.
func Tokens(text string) (words []string, at []int, position int, e int) {
	if len(text) > api.MaxText {
		return nil, nil, 0, api.ErrLimit
	}
	for i := 0; i < len(text); {
		if isSpace(text[i]) {
			i++
			continue
		}
		token := tokenOf(text[i:])
		if token == "" {
			return nil, nil, i, api.ErrSyntax
		}
		words, at = append(words, token), append(at, i)
		i += len(token)
	}
	return words, at, 0, api.OK
}

// tokenOf returns the token at the beginning of a text, or "".
func tokenOf(text string) string {
	switch {
	case isLetter(text[0]):
		return leading(text, isLetterOrDigit)
	case isDigit(text[0]):
		return leading(text, isDigit)
	case strings.HasPrefix(text, "<->"):
		return "<->"
	case strings.HasPrefix(text, "->"):
		return "->"
	case strings.IndexByte(marks, text[0]) >= 0:
		return text[:1]
	}
	return ""
}

// leading returns the longest beginning of a text whose bytes pass a test.
func leading(text string, test func(c byte) bool) string {
	n := 0
	for n < len(text) && test(text[n]) {
		n++
	}
	return text[:n]
}

func isSpace(c byte) bool {
	return c == ' ' || c == '\t' || c == '\n'
}

// isLetter reports whether a word can begin with a byte: the underscore counts as a letter.
func isLetter(c byte) bool {
	return c >= 'a' && c <= 'z' || c >= 'A' && c <= 'Z' || c == '_'
}

func isDigit(c byte) bool {
	return c >= '0' && c <= '9'
}

func isLetterOrDigit(c byte) bool {
	return isLetter(c) || isDigit(c)
}
