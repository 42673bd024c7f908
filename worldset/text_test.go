package worldset

import (
	"strings"
	"testing"

	"witting/api"
)

// TestFormat is part of P1.4.
func TestFormat(t *testing.T) {
	for _, c := range []struct {
		s    uint64
		want string
	}{
		{0, "{}"},
		{1, "{0}"},
		{33, "{0 5}"},
		{1<<63 | 1<<10, "{10 63}"},
		{7, "{0 1 2}"},
	} {
		if text := Format(c.s); text != c.want {
			t.Errorf("Format(%x) is %q", c.s, text)
		}
	}
}

// TestParse is part of P1.4: well-formed texts, and the errors of their numbers in order.
func TestParse(t *testing.T) {
	for _, c := range []struct {
		text string
		want uint64
		e    int
	}{
		{"{}", 0, api.OK},
		{"{0}", 1, api.OK},
		{"{0 5}", 33, api.OK},
		{"{10 63}", 1<<63 | 1<<10, api.OK},
		{"{64}", 0, api.ErrRange},
		{"{100}", 0, api.ErrRange},
		{"{999999999}", 0, api.ErrRange},
		{"{5 0}", 0, api.ErrOrder},
		{"{5 5}", 0, api.ErrOrder},
		{"{0 0}", 0, api.ErrOrder},
		{"{5 4 64}", 0, api.ErrOrder},
		{"{5 64 4}", 0, api.ErrRange},
		{"{64 3}", 0, api.ErrRange},
		{"{63 64}", 0, api.ErrRange},
	} {
		if s, e := Parse(c.text); s != c.want || e != c.e {
			t.Errorf("Parse(%q) is %x, %d", c.text, s, e)
		}
	}
}

// TestParseSyntax is part of P1.4: the syntax comes first, whatever the numbers are.
func TestParseSyntax(t *testing.T) {
	for _, text := range []string{
		"", "{", "}", "}{", "{}}", "{{}", "{}{}", "{} ", " {}", "{ }", "{  }",
		"0", "0 5", "{0", "0}", "(0)", "[0]",
		"{ 0}", "{0 }", "{0  5}", "{0,5}", "{0, 5}", "{0\t5}", "{0\n5}", "{0}\n",
		"{05}", "{00}", "{0 00}", "{-1}", "{+1}", "{1.0}", "{1e1}", "{0x1}", "{1_0}", "{a}", "{0 a}",
		"{1000000000}", "{0000000001}", "{99999999999999999999}", "{18446744073709551616}",
		"{5 64 x}", "{64 }", "{5 0 05}", "{64", "{5 0",
		"{\u0663}", "{1\x00}", "{\xff}", "{\u00a0}",
		"{/}", "{:}", "{0 1 2 3 4 5 6 7 8 9 }",
	} {
		if s, e := Parse(text); s != 0 || e != api.ErrSyntax {
			t.Errorf("Parse(%q) is %x, %d", text, s, e)
		}
	}
	if s, e := Parse("{" + strings.Repeat("1 ", 100000) + "1}"); s != 0 || e != api.ErrOrder {
		t.Error("a long text:", s, e)
	}
	if s, e := Parse("{" + strings.Repeat("1 ", 100000) + "}"); s != 0 || e != api.ErrSyntax {
		t.Error("a long text with a space too many:", s, e)
	}
}

// TestTextAndBack is part of P1.6: Parse and Format are inverse to each other.
func TestTextAndBack(t *testing.T) {
	for _, s := range samples() {
		if again, e := Parse(Format(s)); again != s || e != api.OK {
			t.Errorf("%q is read as %x, %d", Format(s), again, e)
		}
	}
	for _, text := range []string{"{}", "{0}", "{3 17 63}"} {
		if s, e := Parse(text); Format(s) != text || e != api.OK {
			t.Errorf("%q comes back as %q, %d", text, Format(s), e)
		}
	}
}

// FuzzParse is part of P1 of DOC.md and of P1.6: any text has a result, and a text that is accepted is the text of its set.
func FuzzParse(f *testing.F) {
	for _, text := range []string{"", "{", "{}", "{0 5}", "{64}", "{5 0}", "{0  5}", "{000000000}", "\xff\xfe"} {
		f.Add(text)
	}
	f.Fuzz(func(t *testing.T, text string) {
		s, e := Parse(text)
		if e == api.OK && Format(s) != text {
			t.Errorf("%q is read as %q", text, Format(s))
		}
		if e != api.OK && s != 0 {
			t.Errorf("%q has the error %d and the set %x", text, e, s)
		}
	})
}
