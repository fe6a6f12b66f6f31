package modes_test

import (
	"bytes"
	"encoding/hex"
	"strings"
	"testing"

	"locksmith/aes"
	"locksmith/api"
	"locksmith/modes"
)

// The calls stand with the signatures that the chapter lists.
var (
	_ func(key, iv, text []byte) ([]byte, api.Errno) = modes.Seal
	_ func(key, iv, box []byte) ([]byte, api.Errno)  = modes.Open
	_ func(key, text []byte) ([]byte, api.Errno)     = modes.Mac
	_ func([]byte) []byte                            = modes.Pad
	_ func([]byte) ([]byte, api.Errno)               = modes.Unpad
)

// lengths are those that a key may have.
var lengths = []int{16, 24, 32}

// The keys of the examples of SP 800-38A and 800-38B, and of RFC 4493, and the
// text that all of them seal and tag, four blocks.
const (
	key128   = "2b7e151628aed2a6abf7158809cf4f3c"
	key192   = "8e73b0f7da0e6452c810f32b809079e562f8ead2522c6b7b"
	key256   = "603deb1015ca71be2b73aef0857d77811f352c073b6108d72d9810a30914dff4"
	nistText = "6bc1bee22e409f96e93d7e117393172a ae2d8a571e03ac9c9eb76fac45af8e51 30c81c46a35ce411e5fbc1191a0a52ef f69f2445df4f9b17ad2b417be66c3710"
)

// raw answers the bytes of hex digits, blanks passed over.
func raw(t *testing.T, s string) []byte {
	t.Helper()
	b, e := hex.DecodeString(strings.Join(strings.Fields(s), ""))
	if e != nil {
		t.Fatal(e)
	}
	return b
}

// drawer answers a source of bytes in no plain order, the same for the same
// seed.
func drawer(seed uint64) func(n int) []byte {
	return func(n int) []byte {
		b := make([]byte, n)
		for i := range b {
			seed = seed*6364136223846793005 + 1442695040888963407
			b[i] = byte(seed >> 56)
		}
		return b
	}
}

func newCipher(t *testing.T, key []byte) *aes.Cipher {
	t.Helper()
	c, e := aes.New(key)
	if e != api.OK {
		t.Fatalf("New of %d bytes: %d", len(key), e)
	}
	return c
}

func sealed(t *testing.T, key, iv, text []byte) []byte {
	t.Helper()
	box, e := modes.Seal(key, iv, text)
	if e != api.OK {
		t.Fatalf("9.1: Seal with %d bytes of key, %d of iv: %d", len(key), len(iv), e)
	}
	return box
}

func tagged(t *testing.T, key, text []byte) []byte {
	t.Helper()
	tag, e := modes.Mac(key, text)
	if e != api.OK {
		t.Fatalf("9.1: Mac with %d bytes of key: %d", len(key), e)
	}
	return tag
}

// checkRefused holds that the answer is this error, and nothing beside it.
func checkRefused(t *testing.T, what string, got []byte, e, want api.Errno) {
	t.Helper()
	if e != want {
		t.Errorf("9.1: %s: %d, want %d", what, e, want)
	}
	if got != nil {
		t.Errorf("R3: %s: %x beside %d", what, got, e)
	}
}

// checkTaken holds that the answer is these bytes.
func checkTaken(t *testing.T, what string, got []byte, e api.Errno, want []byte) {
	t.Helper()
	if e != api.OK || !bytes.Equal(got, want) {
		t.Errorf("9.1: %s: %x, %d, want %x", what, got, e, want)
	}
}

// xored answers the sum of two blocks.
func xored(a, b [16]byte) [16]byte {
	for i := range a {
		a[i] ^= b[i]
	}
	return a
}

// shifted answers the block to the left by a bit, 87 hex xored in if the bit
// that went was 1: by digits of a text, so that it is told otherwise than in
// the program.
func shifted(b [16]byte) [16]byte {
	var bits strings.Builder
	for _, x := range b {
		for i := 7; i >= 0; i-- {
			bits.WriteByte('0' + x>>i&1)
		}
	}
	moved := bits.String()[1:] + "0"
	var s [16]byte
	for i, digit := range moved {
		s[i/8] = s[i/8]*2 + byte(digit-'0')
	}
	if bits.String()[0] == '1' {
		s[15] ^= 0x87
	}
	return s
}

// flipped answers the bytes anew, one bit turned.
func flipped(b []byte, bit int) []byte {
	b = append([]byte{}, b...)
	b[bit/8] ^= 1 << (bit % 8)
	return b
}

// joined answers the bytes one behind the other, as new memory.
func joined(parts ...[]byte) []byte {
	return bytes.Join(parts, nil)
}
