package object_test

import (
	"strings"
	"testing"
	"unicode/utf8"

	"locksmith/object"
)

// checkText asks of a string alone whether it is a text, and behind "x-"
// whether it is a custom name.
func checkText(t *testing.T, s string, want bool) {
	t.Helper()
	if got := object.IsText(s); got != want {
		t.Errorf("10.1: IsText(%q), %d bytes: %v", s, len(s), got)
	}
	custom := want && strings.HasPrefix(s, "x-")
	if got := object.IsCustom(s); got != custom {
		t.Errorf("10.1: IsCustom(%q), %d bytes: %v", s, len(s), got)
	}
}

func TestTextLengths(t *testing.T) {
	for n := range 400 {
		checkText(t, letters(n), n >= 1 && n <= 120)
		checkText(t, "x-"+letters(n), n <= 118)
		// Bytes are counted, not signs.
		checkText(t, strings.Repeat("é", n), n >= 1 && n <= 60)
		checkText(t, strings.Repeat("€", n), n >= 1 && n <= 40)
		checkText(t, strings.Repeat("\U0001f511", n), n >= 1 && n <= 30)
		checkText(t, "x-"+strings.Repeat("é", n), n <= 59)
	}
	checkText(t, letters(1<<20), false)
	checkText(t, strings.Repeat("\xff", 1<<20), false)
	checkText(t, "x-"+letters(1<<20), false)
}

// The least and the greatest sign of each length, and what stands beside them.
func TestTextSigns(t *testing.T) {
	for _, s := range []string{
		"\x00", "\x01", "\n", " ", "~", "\x7f",
		"\xc2\x80", "\xdf\xbf",
		"\xe0\xa0\x80", "\xe1\x80\x80", "\xec\xbf\xbf", "\xed\x80\x80", "\xed\x9f\xbf", "\xee\x80\x80", "\xef\xbf\xbd", "\xef\xbf\xbe", "\xef\xbf\xbf",
		"\xf0\x90\x80\x80", "\xf1\x80\x80\x80", "\xf3\xbf\xbf\xbf", "\xf4\x80\x80\x80", "\xf4\x8f\xbf\xbf",
		"\xef\xbb\xbf", "e\u0301", "\x00\x00",
	} {
		for _, around := range []string{"", "a", "x-", "é", letters(115)} {
			checkText(t, around+s, true)
		}
		checkText(t, s+"a", true)
		checkText(t, s+s, true)
		checkText(t, letters(121-len(s))+s, false)
	}
}

func TestTextThatIsNone(t *testing.T) {
	wrong := map[string][]string{
		"a byte of a sign's inside":  {"\x80", "\x81", "\xbf", "\x80\x80", "\xa9"},
		"bytes that never stand":     {"\xfe", "\xff", "\xf5\x80\x80\x80", "\xf8\x88\x80\x80\x80", "\xfc\x84\x80\x80\x80\x80"},
		"a sign that is cut":         {"\xc2", "\xdf", "\xe1", "\xe1\x80", "\xe2\x82", "\xf0", "\xf0\x90", "\xf0\x9f\x94", "\xf4\x8f\xbf"},
		"a sign with another inside": {"\xc2\xc0", "\xc2\x7f", "\xe2\x28\xac", "\xe2\x82\x28", "\xf0\x28\x8c\xbc", "\xf0\x90\x28\xbc", "\xf0\x9f\x94\x28"},
		"laid too long":              {"\xc0\x80", "\xc0\xaf", "\xc1\xbf", "\xe0\x80\x80", "\xe0\x80\xaf", "\xe0\x9f\xbf", "\xf0\x80\x80\x80", "\xf0\x8f\xbf\xbf"},
		"a surrogate":                {"\xed\xa0\x80", "\xed\xad\xbf", "\xed\xae\x80", "\xed\xb0\x80", "\xed\xbf\xbf", "\xed\xa0\x80\xed\xb0\x80"},
		"above 10ffff":               {"\xf4\x90\x80\x80", "\xf4\xbf\xbf\xbf", "\xf5\x80\x80\x80", "\xf7\xbf\xbf\xbf"},
		"a byte of Latin-1":          {"\xe9", "gr\xfcn"},
	}
	for what, all := range wrong {
		for _, s := range all {
			if utf8.ValidString(s) {
				t.Fatalf("%s: %q is valid", what, s)
			}
			for _, text := range []string{s, "a" + s, s + "a", "x-" + s, "x-a" + s + "b", s + "x-", letters(120-len(s)) + s, s + letters(120-len(s))} {
				checkText(t, text, false)
			}
		}
	}
	for first := range 256 {
		for second := range 256 {
			s := string([]byte{byte(first), byte(second)})
			checkText(t, s, string([]rune(s)) == s)
		}
		checkText(t, string([]byte{byte(first)}), first < 128)
	}
}

func TestCustomNames(t *testing.T) {
	for _, s := range []string{"x-", "x--", "x-a", "x-x-", "x- ", "x-\x00", "x-é", "x-" + letters(118)} {
		if !object.IsCustom(s) {
			t.Errorf("10.1: IsCustom(%q) is false", s)
		}
	}
	for _, s := range []string{
		"", "x", "-", "X-", "X-a", "y-", "y-a", "-x", "ax-", "ax-a", " x-a", "\x00x-", "é-a", "x\u2010a", "x\u2013", "xx-", "x a-", "x.-", "x_", "x-\xff", "x-a\xc2", "\xffx-", "x\xff-",
		"x-" + letters(119), "x-a" + strings.Repeat("é", 59), letters(50) + "x-",
	} {
		if object.IsCustom(s) {
			t.Errorf("10.1: IsCustom(%q) is true", s)
		}
	}
	for first := range 128 {
		for second := range 128 {
			s := string([]byte{byte(first), byte(second), 'a'})
			if got := object.IsCustom(s); got != (first == 'x' && second == '-') {
				t.Errorf("10.1: IsCustom(%q): %v", s, got)
			}
		}
	}
}
