package aes_test

import (
	"bytes"
	stdaes "crypto/aes"
	"testing"

	"locksmith/aes"
	"locksmith/api"
)

// checkPair holds that the block is sealed so, and opened again.
func checkPair(t *testing.T, c *aes.Cipher, what string, in, out [16]byte) {
	t.Helper()
	if got := c.Seal(in); got != out {
		t.Errorf("8.2: %s: Seal(%x): %x, want %x", what, in, got, out)
	}
	if got := c.Open(out); got != in {
		t.Errorf("8.2: %s: Open(%x): %x, want %x", what, out, got, in)
	}
}

// TestNewOfLengths: all up to far above the last one that may be.
func TestNewOfLengths(t *testing.T) {
	draw := drawer(1)
	for n := range 2000 {
		c, e := aes.New(draw(n))
		switch n {
		case 16, 24, 32:
			if e != api.OK || c == nil {
				t.Errorf("8.2: New of %d bytes: %v, %d", n, c, e)
			}
		default:
			if e != api.ErrArg || c != nil {
				t.Errorf("8.2: R3: New of %d bytes: %v, %d", n, c, e)
			}
		}
	}
}

// TestNewOfWrongKeys: none, an empty one, and such whose length is right once
// it is cut, or told in bits; what stands in the room behind them counts for
// nothing.
func TestNewOfWrongKeys(t *testing.T) {
	room := make([]byte, 64)
	for what, key := range map[string][]byte{
		"nil": nil, "none": {}, "none, with room": room[:0], "15 of 16": room[:15:16], "23 of 24": room[:23:24], "31 of 32": room[:31:32],
		"2^8 + 16": make([]byte, 1<<8+16), "2^8 + 24": make([]byte, 1<<8+24), "2^8 + 32": make([]byte, 1<<8+32), "2^16 + 16": make([]byte, 1<<16+16),
		"128": make([]byte, 128), "192": make([]byte, 192), "256": make([]byte, 256), "2^20": make([]byte, 1<<20),
		"hex digits": []byte("2b7e151628aed2a6abf7158809cf4f3c1"),
	} {
		if c, e := aes.New(key); c != nil || e != api.ErrArg {
			t.Errorf("8.2: R3: New of %s: %v, %d", what, c, e)
		}
	}
}

// TestFips: the standard's appendices B and C.1 to C.3.
func TestFips(t *testing.T) {
	for _, c := range []struct{ what, key, in, out string }{
		{"B", "2b7e151628aed2a6abf7158809cf4f3c", "3243f6a8885a308d313198a2e0370734", "3925841d02dc09fbdc118597196a0b32"},
		{"C.1", "000102030405060708090a0b0c0d0e0f", "00112233445566778899aabbccddeeff", "69c4e0d86a7b0430d8cdb78070b4c55a"},
		{"C.2", "000102030405060708090a0b0c0d0e0f1011121314151617", "00112233445566778899aabbccddeeff", "dda97ca4864cdfe06eaf70a0ec0d7191"},
		{"C.3", "000102030405060708090a0b0c0d0e0f101112131415161718191a1b1c1d1e1f", "00112233445566778899aabbccddeeff", "8ea2b7ca516745bfeafc49904b496089"},
	} {
		checkPair(t, newCipher(t, raw(t, c.key)), c.what, [16]byte(raw(t, c.in)), [16]byte(raw(t, c.out)))
	}
}

// TestOtherExamples: those of SP 800-38A, F.1, block by block.
func TestOtherExamples(t *testing.T) {
	in := raw(t, "6bc1bee22e409f96e93d7e117393172a ae2d8a571e03ac9c9eb76fac45af8e51 30c81c46a35ce411e5fbc1191a0a52ef f69f2445df4f9b17ad2b417be66c3710")
	for _, c := range []struct{ key, out string }{
		{"2b7e151628aed2a6abf7158809cf4f3c",
			"3ad77bb40d7a3660a89ecaf32466ef97 f5d3d58503b9699de785895a96fdbaaf 43b1cd7f598ece23881b00e3ed030688 7b0c785e27e8ad3f8223207104725dd4"},
		{"8e73b0f7da0e6452c810f32b809079e562f8ead2522c6b7b",
			"bd334f1d6e45f25ff712a214571fa5cc 974104846d0ad3ad7734ecb3ecee4eef ef7afd2270e2e60adce0ba2face6444e 9a4b41ba738d6c72fb16691603c18e0e"},
		{"603deb1015ca71be2b73aef0857d77811f352c073b6108d72d9810a30914dff4",
			"f3eed1bdb5d2a03c064b5a7e3db181f8 591ccb10d410ed26dc5ba74a31362870 b6ed21b99ca6f4f9f153e7b1beafed1d 23304b7a39f9f3ff067d8d8f9e24ecc7"},
	} {
		out := raw(t, c.out)
		x := newCipher(t, raw(t, c.key))
		for at := 0; at < len(in); at += 16 {
			checkPair(t, x, c.key, [16]byte(in[at:]), [16]byte(out[at:]))
		}
	}
}

// checkKey holds the cipher of a key against another one, both ways.
func checkKey(t *testing.T, key []byte, blocks ...[]byte) {
	t.Helper()
	want, e := stdaes.NewCipher(key)
	if e != nil {
		t.Fatal(e)
	}
	c := newCipher(t, key)
	for _, block := range blocks {
		var sealed, opened [16]byte
		want.Encrypt(sealed[:], block)
		want.Decrypt(opened[:], block)
		if got := c.Seal([16]byte(block)); got != sealed {
			t.Errorf("8.2: key %x: Seal(%x): %x, want %x", key, block, got, sealed)
		}
		if got := c.Open([16]byte(block)); got != opened {
			t.Errorf("8.2: key %x: Open(%x): %x, want %x", key, block, got, opened)
		}
	}
}

// plainBlocks answers blocks of one value, and those with one bit set.
func plainBlocks() [][]byte {
	all := [][]byte{flat(16, 0), flat(16, 0x55), flat(16, 0x63), flat(16, 0xff)}
	for bit := range 128 {
		all = append(all, flipped(flat(16, 0), bit))
	}
	return all
}

// TestPlainKeys: keys of one value, and with one bit set, or all but one.
func TestPlainKeys(t *testing.T) {
	for _, n := range lengths {
		for _, value := range []byte{0, 1, 0x52, 0x80, 0xff} {
			checkKey(t, flat(n, value), plainBlocks()...)
		}
		for bit := range 8 * n {
			checkKey(t, flipped(flat(n, 0), bit), flat(16, 0), flat(16, 0xff))
			checkKey(t, flipped(flat(n, 0xff), bit), flat(16, 0), flat(16, 0xff))
		}
	}
}

func TestDrawnKeys(t *testing.T) {
	draw := drawer(2)
	for range 1000 {
		for _, n := range lengths {
			checkKey(t, draw(n), draw(16), draw(16))
		}
	}
}

// TestThereAndBack: whichever comes first.
func TestThereAndBack(t *testing.T) {
	draw := drawer(3)
	for range 1000 {
		for _, n := range lengths {
			key, b := draw(n), [16]byte(draw(16))
			c := newCipher(t, key)
			if got := c.Open(c.Seal(b)); got != b {
				t.Errorf("8.2: key %x: Open(Seal(%x)): %x", key, b, got)
			}
			if got := c.Seal(c.Open(b)); got != b {
				t.Errorf("8.2: key %x: Seal(Open(%x)): %x", key, b, got)
			}
		}
	}
}

// TestManyTimesOver: a block that is sealed again and again is opened as often.
func TestManyTimesOver(t *testing.T) {
	for _, n := range lengths {
		c := newCipher(t, flat(n, 7))
		want, e := stdaes.NewCipher(flat(n, 7))
		if e != nil {
			t.Fatal(e)
		}
		var b, other [16]byte
		for range 1000 {
			b = c.Seal(b)
			want.Encrypt(other[:], other[:])
		}
		if b != other {
			t.Errorf("8.2: %d bytes, 1000 times: %x, want %x", n, b, other)
		}
		for range 1000 {
			b = c.Open(b)
		}
		if b != [16]byte{} {
			t.Errorf("8.2: %d bytes, 1000 times and back: %x", n, b)
		}
	}
}

// TestBlocksThatDiffer: in one bit, or anyhow, are sealed, and opened, to
// blocks that differ.
func TestBlocksThatDiffer(t *testing.T) {
	draw := drawer(4)
	for _, n := range lengths {
		c := newCipher(t, draw(n))
		b := draw(16)
		blocks := append(plainBlocks(), b)
		for bit := range 128 {
			blocks = append(blocks, flipped(b, bit))
		}
		for range 2000 {
			blocks = append(blocks, draw(16))
		}
		sealed, opened := map[[16]byte]int{}, map[[16]byte]int{}
		for _, b := range blocks {
			sealed[c.Seal([16]byte(b))]++
			opened[c.Open([16]byte(b))]++
		}
		if len(sealed) != len(blocks) || len(opened) != len(blocks) {
			t.Errorf("8.2: %d blocks are sealed to %d, and opened to %d", len(blocks), len(sealed), len(opened))
		}
	}
}

// TestKeysThatDiffer: in one bit, or in what stands behind the shorter one,
// seal a block otherwise.
func TestKeysThatDiffer(t *testing.T) {
	draw := drawer(5)
	whole := draw(32)
	b := [16]byte(draw(16))
	sealed, keys := map[[16]byte]int{}, 0
	for _, n := range lengths {
		sealed[newCipher(t, whole[:n]).Seal(b)]++
		keys++
		for bit := range 8 * n {
			sealed[newCipher(t, flipped(whole[:n], bit)).Seal(b)]++
			keys++
		}
	}
	for _, key := range [][]byte{make([]byte, 16), make([]byte, 24), make([]byte, 32), whole[16:]} {
		sealed[newCipher(t, key).Seal(b)]++
		keys++
	}
	if len(sealed) != keys {
		t.Errorf("8.2: %d keys seal a block to %d", keys, len(sealed))
	}
}

// TestNoPanic: R1: whatever bytes stand there.
func TestNoPanic(t *testing.T) {
	draw := drawer(6)
	for n := range 100 {
		for range 30 {
			c, e := aes.New(draw(n))
			if (c == nil) != (e == api.ErrArg) {
				t.Fatalf("R3: %d bytes: %v, %d", n, c, e)
			}
			if c != nil {
				c.Seal([16]byte(draw(16)))
				c.Open([16]byte(draw(16)))
			}
		}
	}
	for value := range 256 {
		for _, n := range lengths {
			c := newCipher(t, bytes.Repeat([]byte{byte(value)}, n))
			c.Seal([16]byte(flat(16, byte(value))))
			c.Open([16]byte(flat(16, byte(value))))
		}
	}
}
