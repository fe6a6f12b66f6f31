package tags_test

import (
	"strings"
	"testing"

	"locksmith/tags"
)

// TestConstants: each has the number that the chapter gives it.
func TestConstants(t *testing.T) {
	words := tagWords()
	if len(words) != 59 || len(numbers(words)) != 59 || len(names(words)) != 59 {
		t.Fatalf("7.1: the test's own list: %d words", len(words))
	}
	for _, w := range words {
		if w.has != w.number {
			t.Errorf("7.1: %s is %x, not %x", w.name, w.has, w.number)
		}
	}
}

// TestNameOfEach: letter by letter the word that stands there.
func TestNameOfEach(t *testing.T) {
	for _, w := range tagWords() {
		if got := tags.Name(w.number); got != w.name {
			t.Errorf("7.1: Name(%x): %q, not %q", w.number, got, w.name)
		}
		if got := tags.Name(w.has); got != w.name {
			t.Errorf("7.1: Name(tags.%s): %q", w.name, got)
		}
	}
}

// TestNameExamples: what the chapter's examples and the edges say.
func TestNameExamples(t *testing.T) {
	if got := tags.Name(0x42000d); got != "BatchCount" {
		t.Errorf("7.1: Name(42000d): %q", got)
	}
	for _, n := range []int{0, 1, -1, 0x420000, 0x420002, 0x4200c5, 0x4200c7, 0x41ffff, 0x42ffff, 0x430000, 0x540000, 0x540001, 0x54ffff, 0x0d, 0x2000d} {
		if got := tags.Name(n); got != "" {
			t.Errorf("7.1: Name(%x): %q, not empty", n, got)
		}
	}
}

// TestNameOfAllTags: of every number from far below the first to far above
// the last, those of clients of their own as well.
func TestNameOfAllTags(t *testing.T) {
	want := numbers(tagWords())
	count := 0
	for n := -0x10000; n < 0x560000; n++ {
		got := tags.Name(n)
		if got != want[n] {
			t.Fatalf("7.1: Name(%x): %q, not %q", n, got, want[n])
		}
		if got != "" {
			count++
		}
	}
	if count != 59 {
		t.Errorf("7.1: %d numbers have a name", count)
	}
}

// TestNameOfStrangeNumbers: no number is cut ahead of being looked at.
func TestNameOfStrangeNumbers(t *testing.T) {
	want := numbers(tagWords())
	for _, n := range strange(tagWords()) {
		if got := tags.Name(n); got != want[n] {
			t.Errorf("7.1: Name(%x): %q, not %q", n, got, want[n])
		}
	}
}

// TestNoNameOfOperations: operations have names of their own alone.
func TestNoNameOfOperations(t *testing.T) {
	for _, w := range opWords() {
		if got := tags.Name(w.number); got != "" {
			t.Errorf("7.1: Name(%d): %q", w.number, got)
		}
		checkNone(t, w.name)
	}
}

// TestTagOfEach: back, and true.
func TestTagOfEach(t *testing.T) {
	for _, w := range tagWords() {
		if got, ok := tags.Tag(w.name); got != w.number || !ok {
			t.Errorf("7.1: Tag(%q): %x, %v, not %x", w.name, got, ok, w.number)
		}
		spelt := string([]byte(w.name)) // no text of the program's own
		if got, ok := tags.Tag(spelt); got != w.number || !ok {
			t.Errorf("7.1: Tag of a word that was put together, %q: %x, %v", spelt, got, ok)
		}
	}
}

// TestThereAndBack: of each number, and of each word.
func TestThereAndBack(t *testing.T) {
	for _, w := range tagWords() {
		if n, ok := tags.Tag(tags.Name(w.number)); n != w.number || !ok {
			t.Errorf("7.1: Tag(Name(%x)): %x, %v", w.number, n, ok)
		}
		n, _ := tags.Tag(w.name)
		if got := tags.Name(n); got != w.name {
			t.Errorf("7.1: Name(Tag(%q)): %q", w.name, got)
		}
	}
}

// checkNone holds that the text is no tag's word.
func checkNone(t *testing.T, s string) {
	t.Helper()
	if got, ok := tags.Tag(s); got != 0 || ok {
		t.Errorf("7.1: R3: Tag(%q): %x, %v, not 0, false", s, got, ok)
	}
}

// TestTagOfNone: of texts that are no word 0 stands beside the false.
func TestTagOfNone(t *testing.T) {
	for _, s := range []string{
		"", " ", "\x00", "\xff", "A", "a", "0", "42000d", "0x42000d", "4325389", "Batch Count", "Batch-Count",
		"None", "Tag", "Name", "Key", "Batch", "Unique", "UniqueID", "IV", "MACData", "Iv ", "\u0399v", "St\u0430te", "BatchCount\x00",
		"Cryptographic Algorithm", "Batch Order Continue", "Unique Identifier",
		strings.Repeat("BatchCount", 1000), strings.Repeat("x", 1<<20),
	} {
		checkNone(t, s)
	}
}

// TestTagOfNearlyAWord: great for small, a blank, a letter less or more.
func TestTagOfNearlyAWord(t *testing.T) {
	right := names(tagWords())
	for _, w := range tagWords() {
		for _, s := range wrongWords(w.name) {
			if n, is := right[s]; !is {
				checkNone(t, s)
			} else if got, ok := tags.Tag(s); got != n || !ok {
				t.Errorf("7.1: Tag(%q): %x, %v, not %x", s, got, ok, n)
			}
		}
	}
}

// TestTagOfTwoWords: no word in another's front or behind it counts.
func TestTagOfTwoWords(t *testing.T) {
	right := names(tagWords())
	for _, a := range tagWords() {
		for _, b := range tagWords() {
			want, is := right[a.name+b.name] // Link, with its type
			if got, ok := tags.Tag(a.name + b.name); got != want || ok != is {
				t.Errorf("7.1: Tag(%q): %x, %v", a.name+b.name, got, ok)
			}
		}
	}
}

// TestNamesAgain: R4: what was asked ahead of it turns nothing.
func TestNamesAgain(t *testing.T) {
	want := names(tagWords())
	for range 3 {
		for _, w := range tagWords() {
			tags.Tag(w.name + " ")
			tags.Name(w.number + 1)
			if got, ok := tags.Tag(w.name); got != want[w.name] || !ok {
				t.Errorf("R4: Tag(%q): %x, %v", w.name, got, ok)
			}
		}
	}
}
