package parser

import (
	"regexp"
	"slices"
	"strings"
	"testing"

	"witting/api"
)

// shape describes the tokens as the chapter does.
var shape = regexp.MustCompile(`^(?:[A-Za-z_][A-Za-z0-9_]*|[0-9]+|<->|->|[~&|()\[\],.!])`)

// tokensOf divides a text by way of shape.
func tokensOf(text string) (words []string, at []int, position int, e int) {
	for i := 0; i < len(text); {
		token := shape.FindString(text[i:])
		switch {
		case token != "":
			words, at = append(words, token), append(at, i)
			i += len(token)
		case strings.Contains(" \t\n", text[i:i+1]):
			i++
		default:
			return nil, nil, i, api.ErrSyntax
		}
	}
	return words, at, 0, api.OK
}

// checkTokens compares the tokens of a text with the chapter's description.
func checkTokens(t *testing.T, text string) {
	t.Helper()
	words, at, position, e := Tokens(text)
	wantWords, wantAt, wantPosition, want := tokensOf(text)
	if !slices.Equal(words, wantWords) || !slices.Equal(at, wantAt) || position != wantPosition || e != want {
		t.Errorf("Tokens(%q) is %q, %d, %d, %d", text, words, at, position, e)
	}
}

// TestTokens is P6.1: all texts of up to four bytes of some, and all bytes.
func TestTokens(t *testing.T) {
	texts := []string{""}
	for range 4 {
		for _, text := range slices.Clone(texts) {
			for _, c := range []byte("aZ_09<->| \t\n$") {
				texts = append(texts, text+string(c))
			}
		}
		slices.Sort(texts)
		texts = slices.Compact(texts)
	}
	for _, text := range texts {
		checkTokens(t, text)
	}
	for c := range 256 {
		for _, text := range []string{"", "a", "1", "(", "~ ", "<-", "<", "-"} {
			checkTokens(t, text+string([]byte{byte(c)}))
			checkTokens(t, string([]byte{byte(c)})+text)
		}
	}
}

// TestTokensLiterally is P6.1 for texts whose tokens are written out.
func TestTokensLiterally(t *testing.T) {
	for _, c := range []struct {
		text  string
		words []string
		at    []int
	}{
		{"", nil, nil},
		{" \t\n ", nil, nil},
		{"K[a]p & q", []string{"K", "[", "a", "]", "p", "&", "q"}, []int{0, 1, 2, 3, 4, 6, 8}},
		{"p<->q->r", []string{"p", "<->", "q", "->", "r"}, []int{0, 1, 4, 5, 7}},
		{"12ab_3Cd 007", []string{"12", "ab_3Cd", "007"}, []int{0, 2, 9}},
		{"[!p]q|~(r,s.1)", []string{"[", "!", "p", "]", "q", "|", "~", "(", "r", ",", "s", ".", "1", ")"}, []int{0, 1, 2, 3, 4, 5, 6, 7, 8, 9, 10, 11, 12, 13}},
		{"untilp until\tp\nuntil", []string{"untilp", "until", "p", "until"}, []int{0, 7, 13, 15}},
		{"_ __9 A", []string{"_", "__9", "A"}, []int{0, 2, 6}},
	} {
		words, at, position, e := Tokens(c.text)
		if !slices.Equal(words, c.words) || !slices.Equal(at, c.at) || position != 0 || e != api.OK {
			t.Errorf("Tokens(%q) is %q, %d, %d, %d", c.text, words, at, position, e)
		}
	}
	for text, want := range map[string]int{
		"$": 0, "p $": 2, "p < -> q": 2, "p <- q": 2, "p - > q": 2, "p -": 2, "<": 0, "p<-": 1, "p\r": 1, "p & \v": 4, "\x00": 0,
		"é": 0, "pé": 1, "p ' q $": 2, ">": 0, "-->": 0, "<<->": 0, "p=q": 1, "p\u00a0": 1,
	} {
		if words, at, position, e := Tokens(text); len(words) != 0 || len(at) != 0 || position != want || e != api.ErrSyntax {
			t.Errorf("Tokens(%q) is %q, %d, %d, %d", text, words, at, position, e)
		}
	}
}

// TestTokensLimit is P6.1: the bytes of the text are counted, whatever they are.
func TestTokensLimit(t *testing.T) {
	for _, c := range []struct {
		text     string
		tokens   int
		position int
		e        int
	}{
		{strings.Repeat("p", 4000), 1, 0, api.OK},
		{strings.Repeat("p", 4001), 0, 0, api.ErrLimit},
		{strings.Repeat("(", 4000), 4000, 0, api.OK},
		{strings.Repeat(" ", 4000), 0, 0, api.OK},
		{strings.Repeat(" ", 4001), 0, 0, api.ErrLimit},
		{strings.Repeat("$", 4001), 0, 0, api.ErrLimit},
		{strings.Repeat(" ", 3999) + "$", 0, 3999, api.ErrSyntax},
		{strings.Repeat("1 ", 100000), 0, 0, api.ErrLimit},
	} {
		words, at, position, e := Tokens(c.text)
		if len(words) != c.tokens || len(at) != c.tokens || position != c.position || e != c.e {
			t.Errorf("%.10q of %d bytes: %d, %d, %d, %d", c.text, len(c.text), len(words), len(at), position, e)
		}
	}
}
