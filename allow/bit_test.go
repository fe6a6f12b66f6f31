package allow_test

import (
	"math"
	"testing"

	"locksmith/allow"
	"locksmith/api"
)

func TestBitByHand(t *testing.T) {
	for op, want := range map[int]int{
		api.Encrypt: api.MayEncrypt, api.Decrypt: api.MayDecrypt, api.Mac: api.MayMac, api.MacVerify: api.MayVerify,
		api.Create: 0, api.CreatePair: 0, api.Register: 0, api.Rekey: 0, api.Locate: 0, api.Check: 0, api.Get: 0,
		api.GetAttributes: 0, api.ListAttributes: 0, api.AddAttribute: 0, api.ModifyAttribute: 0, api.DeleteAttribute: 0,
		api.Allocate: 0, api.Activate: 0, api.Revoke: 0, api.Destroy: 0, api.Archive: 0, api.Recover: 0, api.Query: 0,
		api.Versions: 0,
	} {
		if got := allow.Bit(op); got != want {
			t.Errorf("12.1: Bit(%d): %d, not %d", op, got, want)
		}
	}
	for _, op := range []int{0, -1, 33, 34, 37, math.MaxInt, math.MinInt} {
		if got := allow.Bit(op); got != 0 {
			t.Errorf("12.1: Bit(%d), which is no operation: %d", op, got)
		}
	}
}

func TestBitOfNumbers(t *testing.T) {
	for op := -70000; op <= 70000; op++ {
		if got := allow.Bit(op); got != mustBit(op) {
			t.Fatalf("12.1: Bit(%d): %d", op, got)
		}
	}
}

// Far numbers that are one of the four in their lowest bits alone.
func TestBitOfFarNumbers(t *testing.T) {
	for _, op := range four() {
		for place := 6; place < 64; place++ {
			far := op | 1<<place
			if got := allow.Bit(far); got != 0 {
				t.Errorf("12.1: Bit(%d): %d", far, got)
			}
			checkUse(t, "far", full(api.Active), far, 9)
			checkSpend(t, "far", full(api.Active), far, 1, 9)
		}
	}
}
