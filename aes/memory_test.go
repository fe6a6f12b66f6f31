package aes_test

import (
	"bytes"
	"testing"

	"locksmith/aes"
	"locksmith/api"
)

// TestChangesNoKey: neither the key, wrong ones too, nor the room behind it.
func TestChangesNoKey(t *testing.T) {
	room := drawer(7)(600)
	before := bytes.Clone(room)
	for n := range 100 {
		c, e := aes.New(room[:n])
		if e == api.OK {
			c.Seal([16]byte(room))
			c.Open([16]byte(room))
		}
		if !bytes.Equal(room, before) {
			t.Fatalf("R2: New of %d bytes changes them, or what stands behind them", n)
		}
	}
}

// TestKeepsNoKey: a caller that writes to it behind New turns nothing.
func TestKeepsNoKey(t *testing.T) {
	draw := drawer(8)
	for _, n := range lengths {
		room := draw(n + 300)
		kept := bytes.Clone(room)
		b := [16]byte(draw(16))
		c := newCipher(t, room[:n])
		copy(room, draw(len(room)))
		clean := newCipher(t, kept[:n])
		if c.Seal(b) != clean.Seal(b) || c.Open(b) != clean.Open(b) {
			t.Errorf("R2: a key of %d bytes that is written to turns its cipher", n)
		}
		clear(room)
		if c.Seal(b) != clean.Seal(b) || c.Open(b) != clean.Open(b) {
			t.Errorf("R2: a key of %d bytes that is cleared turns its cipher", n)
		}
	}
}

// TestBlocksStay: what is handed in, and what was answered.
func TestBlocksStay(t *testing.T) {
	draw := drawer(9)
	for _, n := range lengths {
		c := newCipher(t, draw(n))
		b := [16]byte(draw(16))
		before := b
		sealed, opened := c.Seal(b), c.Open(b)
		if b != before {
			t.Errorf("R2: the block that was handed in is %x, not %x", b, before)
		}
		again := [2][16]byte{sealed, opened}
		for range 20 {
			c.Open(c.Seal([16]byte(draw(16))))
		}
		b = [16]byte{}
		if again != [2][16]byte{sealed, opened} || c.Seal(before) != sealed || c.Open(before) != opened {
			t.Errorf("R2: a block that was answered is another one later")
		}
	}
}

// TestTheSameAgain: whatever a cipher sealed and opened between.
func TestTheSameAgain(t *testing.T) {
	draw := drawer(10)
	for _, n := range lengths {
		c := newCipher(t, draw(n))
		b := [16]byte(draw(16))
		sealed, opened := c.Seal(b), c.Open(b)
		for range 100 {
			c.Seal([16]byte(draw(16)))
			if got := c.Seal(b); got != sealed {
				t.Fatalf("R7: sealed again: %x, not %x", got, sealed)
			}
			c.Open([16]byte(draw(16)))
			if got := c.Open(b); got != opened {
				t.Fatalf("R7: opened again: %x, not %x", got, opened)
			}
		}
	}
}

// TestManyCiphers: of keys in the same memory, of all lengths, made ahead of
// the first block, behind it, and asked in turns: each is as it is alone.
func TestManyCiphers(t *testing.T) {
	draw := drawer(11)
	room := make([]byte, 32)
	b := [16]byte(draw(16))
	var all []*aes.Cipher
	var keys [][]byte
	for i := range 60 {
		copy(room, draw(32))
		n := lengths[i%len(lengths)]
		all = append(all, newCipher(t, room[:n]))
		keys = append(keys, bytes.Clone(room[:n]))
		all[0].Seal(b)
		aes.New(room[:n-1])
	}
	for range 3 {
		for i, c := range all {
			alone := newCipher(t, keys[i])
			if c.Seal(b) != alone.Seal(b) || c.Open(b) != alone.Open(b) {
				t.Errorf("R7: cipher %d of many is not as it is alone", i)
			}
		}
	}
}

// TestTwoOfOneKey: each seals for the other one.
func TestTwoOfOneKey(t *testing.T) {
	draw := drawer(12)
	for _, n := range lengths {
		key := draw(n)
		first, second := newCipher(t, key), newCipher(t, key)
		if first == second {
			t.Errorf("R2: New answers the same cipher twice")
		}
		b := [16]byte(draw(16))
		if second.Open(first.Seal(b)) != b || first.Open(second.Seal(b)) != b {
			t.Errorf("R4: two ciphers of one key differ")
		}
	}
}
