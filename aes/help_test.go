package aes_test

import (
	"encoding/hex"
	"strings"
	"testing"

	"locksmith/aes"
	"locksmith/api"
)

// The calls stand with the signatures that the chapter lists.
var (
	_ func([]byte) (*aes.Cipher, api.Errno) = aes.New
	_ func(*aes.Cipher, [16]byte) [16]byte  = (*aes.Cipher).Seal
	_ func(*aes.Cipher, [16]byte) [16]byte  = (*aes.Cipher).Open
	_ func(byte) byte                       = aes.Box
	_ func(byte) byte                       = aes.Unbox
	_ func(byte, byte) byte                 = aes.Times
)

// lengths are those that a key may have.
var lengths = []int{16, 24, 32}

// fipsBox is figure 7 of FIPS 197, row by row.
const fipsBox = `
	63 7c 77 7b f2 6b 6f c5 30 01 67 2b fe d7 ab 76
	ca 82 c9 7d fa 59 47 f0 ad d4 a2 af 9c a4 72 c0
	b7 fd 93 26 36 3f f7 cc 34 a5 e5 f1 71 d8 31 15
	04 c7 23 c3 18 96 05 9a 07 12 80 e2 eb 27 b2 75
	09 83 2c 1a 1b 6e 5a a0 52 3b d6 b3 29 e3 2f 84
	53 d1 00 ed 20 fc b1 5b 6a cb be 39 4a 4c 58 cf
	d0 ef aa fb 43 4d 33 85 45 f9 02 7f 50 3c 9f a8
	51 a3 40 8f 92 9d 38 f5 bc b6 da 21 10 ff f3 d2
	cd 0c 13 ec 5f 97 44 17 c4 a7 7e 3d 64 5d 19 73
	60 81 4f dc 22 2a 90 88 46 ee b8 14 de 5e 0b db
	e0 32 3a 0a 49 06 24 5c c2 d3 ac 62 91 95 e4 79
	e7 c8 37 6d 8d d5 4e a9 6c 56 f4 ea 65 7a ae 08
	ba 78 25 2e 1c a6 b4 c6 e8 dd 74 1f 4b bd 8b 8a
	70 3e b5 66 48 03 f6 0e 61 35 57 b9 86 c1 1d 9e
	e1 f8 98 11 69 d9 8e 94 9b 1e 87 e9 ce 55 28 df
	8c a1 89 0d bf e6 42 68 41 99 2d 0f b0 54 bb 16`

// raw answers the bytes of hex digits, blanks passed over.
func raw(t *testing.T, s string) []byte {
	t.Helper()
	b, e := hex.DecodeString(strings.Join(strings.Fields(s), ""))
	if e != nil {
		t.Fatal(e)
	}
	return b
}

// newCipher answers the cipher of a key that may be.
func newCipher(t *testing.T, key []byte) *aes.Cipher {
	t.Helper()
	c, e := aes.New(key)
	if e != api.OK || c == nil {
		t.Fatalf("8.2: New of %d bytes: %v, %d", len(key), c, e)
	}
	return c
}

// product multiplies two polynomials bit by bit, and takes the field's own
// off from above.
func product(a, b byte) byte {
	var all int
	for i := range 8 {
		for j := range 8 {
			all ^= int(a>>i&1) * int(b>>j&1) << (i + j)
		}
	}
	for i := 14; i >= 8; i-- {
		if all>>i&1 == 1 {
			all ^= 0x11b << (i - 8)
		}
	}
	return byte(all)
}

// drawer answers a source of bytes in no plain order, the same for the same
// seed.
func drawer(seed uint64) func(n int) []byte {
	return func(n int) []byte {
		b := make([]byte, n)
		for i := range b {
			seed = seed*6364136223846793005 + 1442695040888963407
			b[i] = byte(seed >> 56)
		}
		return b
	}
}

// flat answers n bytes of one value.
func flat(n int, value byte) []byte {
	b := make([]byte, n)
	for i := range b {
		b[i] = value
	}
	return b
}

// flipped answers the bytes anew, one bit turned.
func flipped(b []byte, bit int) []byte {
	b = append([]byte{}, b...)
	b[bit/8] ^= 1 << (bit % 8)
	return b
}
