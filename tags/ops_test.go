package tags_test

import (
	"slices"
	"testing"

	"locksmith/tags"
)

// TestOpNameOfEach: the word that stands in api.
func TestOpNameOfEach(t *testing.T) {
	words := opWords()
	if len(words) != 24 || len(numbers(words)) != 24 || len(names(words)) != 24 {
		t.Fatalf("7.1: the test's own list: %d words", len(words))
	}
	for _, w := range words {
		if w.has != w.number {
			t.Errorf("7.1: api.%s is %d, not %d", w.name, w.has, w.number)
		}
		if got := tags.OpName(w.number); got != w.name {
			t.Errorf("7.1: OpName(%d): %q, not %q", w.number, got, w.name)
		}
		if !tags.Offered(w.number) {
			t.Errorf("7.1: Offered(%d), %s: false", w.number, w.name)
		}
	}
}

// checkNoOp holds that the number is no operation's.
func checkNoOp(t *testing.T, op int) {
	t.Helper()
	if got := tags.OpName(op); got != "" {
		t.Errorf("7.1: OpName(%d): %q, not empty", op, got)
	}
	if tags.Offered(op) {
		t.Errorf("7.1: Offered(%d): true", op)
	}
}

// TestOpNameExamples: what the chapter's examples and the edges say.
func TestOpNameExamples(t *testing.T) {
	if got := tags.OpName(8); got != "Locate" {
		t.Errorf("7.1: OpName(8): %q", got)
	}
	for _, op := range []int{0, -1, -2, 5, 6, 7, 16, 23, 25, 26, 27, 28, 29, 33, 34, 37, 38, 256, 257} {
		checkNoOp(t, op)
	}
}

// TestOpNameOfMany: of every number from far below the first to far above
// the last.
func TestOpNameOfMany(t *testing.T) {
	want := numbers(opWords())
	for op := -70000; op <= 70000; op++ {
		if got := tags.OpName(op); got != want[op] {
			t.Fatalf("7.1: OpName(%d): %q, not %q", op, got, want[op])
		}
		if got := tags.Offered(op); got != (want[op] != "") {
			t.Fatalf("7.1: Offered(%d): %v", op, got)
		}
	}
}

// TestOpNameOfStrangeNumbers: no number is cut ahead of being looked at.
func TestOpNameOfStrangeNumbers(t *testing.T) {
	for _, op := range strange(opWords()) {
		checkNoOp(t, op)
	}
	for _, w := range tagWords() {
		checkNoOp(t, w.number)
	}
}

// TestOps: all of them, each once, rising.
func TestOps(t *testing.T) {
	var want []int
	for _, w := range opWords() {
		want = append(want, w.number)
	}
	got := tags.Ops()
	if !slices.Equal(got, want) {
		t.Fatalf("7.1: Ops(): %v, not %v", got, want)
	}
	for i, op := range got {
		if i > 0 && got[i-1] >= op {
			t.Errorf("7.1: Ops(): %d ahead of %d", got[i-1], op)
		}
		if !tags.Offered(op) || tags.OpName(op) == "" {
			t.Errorf("7.1: Ops() tells %d, which is not offered", op)
		}
	}
}

// TestOpsIsNewMemory: R2: who writes to an answer, or behind its end, turns
// no other one.
func TestOpsIsNewMemory(t *testing.T) {
	want := slices.Clone(tags.Ops())
	seen := make(map[*int]int)
	var kept [][]int
	for round := range 4 {
		got := tags.Ops()
		if !slices.Equal(got, want) {
			t.Fatalf("R2: Ops(), behind %d that were written to: %v", round, got)
		}
		whole := got[:cap(got)]
		for i := range whole {
			if other, is := seen[&whole[i]]; is {
				t.Fatalf("R2: answers %d and %d share memory", other, round)
			}
			seen[&whole[i]] = round
			whole[i] = -1 - round
		}
		kept = append(kept, whole)
	}
	for round, whole := range kept {
		for i, op := range whole {
			if op != -1-round {
				t.Fatalf("R2: answer %d is turned at %d: %d", round, i, op)
			}
		}
	}
	for _, w := range opWords() {
		if tags.OpName(w.number) != w.name || !tags.Offered(w.number) {
			t.Errorf("R2: OpName(%d), behind answers that were written to: %q", w.number, tags.OpName(w.number))
		}
	}
}
