package worldset

import (
	"strconv"
	"strings"

	"witting/api"
)

// maxDigits keeps every number of a text within an int.
const maxDigits = 9

// Format returns a set as text.
func Format(s uint64) string {
	var text strings.Builder
	text.WriteByte('{')
	for i, w := range Members(s) {
		if i > 0 {
			text.WriteByte(' ')
		}
		text.WriteString(strconv.Itoa(w))
	}
	text.WriteByte('}')
	return text.String()
}

// Parse reads the text of a set: ErrSyntax, ErrRange, ErrOrder.
func Parse(text string) (uint64, int) {
	numbers, ok := numbersOf(text)
	if !ok {
		return 0, api.ErrSyntax
	}
	var s uint64
	before := -1
	for _, w := range numbers {
		if !isWorld(w) {
			return 0, api.ErrRange
		}
		if w <= before {
			return 0, api.ErrOrder
		}
		s |= only(w)
		before = w
	}
	return s, api.OK
}

// numbersOf returns the numbers between the braces, and whether the text is well-formed.
func numbersOf(text string) ([]int, bool) {
	inner, opened := strings.CutPrefix(text, "{")
	inner, closed := strings.CutSuffix(inner, "}")
	if !opened || !closed {
		return nil, false
	}
	if inner == "" {
		return nil, true
	}
	var numbers []int
	for _, digits := range strings.Split(inner, " ") {
		n, ok := numberOf(digits)
		if !ok {
			return nil, false
		}
		numbers = append(numbers, n)
	}
	return numbers, true
}

// numberOf returns the number of some digits, and whether they are a number as Parse permits it.
func numberOf(digits string) (int, bool) {
	if digits == "" || len(digits) > maxDigits {
		return 0, false
	}
	if digits[0] == '0' && digits != "0" {
		return 0, false
	}
	n := 0
	for _, c := range []byte(digits) {
		if c < '0' || c > '9' {
			return 0, false
		}
		n = 10*n + int(c-'0')
	}
	return n, true
}
