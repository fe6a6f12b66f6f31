package life_test

import (
	"math"
	"testing"

	"locksmith/api"
	"locksmith/life"
)

// numbers are those from -2 to 9, and far ones: some of them have a state's
// number in their lowest bits.
func numbers() []int {
	all := []int{math.MinInt, math.MinInt + 2, -1 << 32, -256, 255, 257, 258, 1<<32 + 1, 1<<32 + 2, 1 << 62, math.MaxInt}
	for n := -2; n < 10; n++ {
		all = append(all, n)
	}
	return all
}

func TestEveryEdge(t *testing.T) {
	count := 0
	for _, from := range numbers() {
		for _, to := range numbers() {
			got := life.Edge(from, to)
			if got != isEdge(from, to) {
				t.Errorf("11.1: Edge(%d, %d): %v", from, to, got)
			}
			if got {
				count++
			}
		}
	}
	if count != 9 {
		t.Errorf("11.1: there are %d edges, not nine", count)
	}
}

func TestEdgesByName(t *testing.T) {
	edges := map[[2]int]bool{
		{api.PreActive, api.Active}:        true,
		{api.PreActive, api.Compromised}:   true,
		{api.PreActive, api.Destroyed}:     true,
		{api.Active, api.Deactivated}:      true,
		{api.Active, api.Compromised}:      true,
		{api.Deactivated, api.Compromised}: true,
		{api.Deactivated, api.Destroyed}:   true,
		{api.Compromised, api.Both}:        true,
		{api.Destroyed, api.Both}:          true,
		{api.Active, api.Destroyed}:        false, // the chapter's example
		{api.Active, api.Active}:           false,
		{api.Active, api.PreActive}:        false,
		{api.Deactivated, api.Active}:      false,
		{api.PreActive, api.Deactivated}:   false,
		{api.Compromised, api.Destroyed}:   false,
		{api.Destroyed, api.Compromised}:   false,
		{api.Both, api.Compromised}:        false,
		{api.Both, api.Both}:               false,
		{api.Deactivated, api.Both}:        false,
		{api.PreActive - 1, api.PreActive}: false,
		{api.Both, api.Both + 1}:           false,
	}
	for e, want := range edges {
		if life.Edge(e[0], e[1]) != want {
			t.Errorf("11.1: Edge(%d, %d): %v", e[0], e[1], !want)
		}
	}
}

// No state is left and come back to.
func TestNoWayBack(t *testing.T) {
	for from := 1; from <= 6; from++ {
		seen := map[int]bool{}
		reach(from, seen)
		if seen[from] {
			t.Errorf("11.1: edges lead from %d back to it", from)
		}
		if from != api.Both && !seen[api.Both] {
			t.Errorf("11.1: no edges lead from %d to the last state", from)
		}
	}
}

func reach(from int, seen map[int]bool) {
	for to := 1; to <= 6; to++ {
		if life.Edge(from, to) && !seen[to] {
			seen[to] = true
			reach(to, seen)
		}
	}
}
