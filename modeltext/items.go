package modeltext

import (
	"strconv"
	"strings"
)

// maxDigits is the greatest number of digits of a number.
const maxDigits = 3

// itemsOf returns the items of a line, and whether all of its braces are closed.
func itemsOf(line string) ([]string, bool) {
	var items []string
	for {
		item, rest, closed := cutItem(line)
		if !closed {
			return nil, false
		}
		if item == "" {
			return items, true
		}
		items = append(items, item)
		line = rest
	}
}

// cutItem takes the first item from the front of a line, and returns it, "" if there is none, with the rest of the line; and whether it is closed, if it is a set.
func cutItem(line string) (item, rest string, closed bool) {
	line = strings.TrimLeft(line, " ")
	end := len(line)
	if isSet(line) {
		end = strings.IndexByte(line, '}') + 1
		if end == 0 {
			return "", "", false
		}
	} else if i := strings.IndexAny(line, " {"); i >= 0 {
		end = i
	}
	return line[:end], line[end:], true
}

// isIgnored reports whether a line has no items, or is a comment.
// Only its front counts: behind the sign of a comment a brace may stay open.
func isIgnored(line string) bool {
	front := strings.TrimLeft(line, " ")
	return front == "" || front[0] == '#'
}

// isSet reports whether an item is a set.
func isSet(item string) bool {
	return strings.HasPrefix(item, "{")
}

// isWord reports whether an item is a word.
func isWord(item string) bool {
	return !isSet(item)
}

// isNumber reports whether an item is a number.
func isNumber(item string) bool {
	return item == "0" || item[0] != '0' && len(item) <= maxDigits && strings.Trim(item, "0123456789") == ""
}

// valueOf returns the value of an item that isNumber accepts.
func valueOf(number string) int {
	value, _ := strconv.Atoi(number)
	return value
}

// fit reports whether there are as many items as tests, and each item passes its own.
func fit(items []string, tests ...func(item string) bool) bool {
	if len(items) != len(tests) {
		return false
	}
	for i, test := range tests {
		if !test(items[i]) {
			return false
		}
	}
	return true
}
