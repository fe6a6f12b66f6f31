package modes_test

import (
	"bytes"
	stdaes "crypto/aes"
	"crypto/cipher"
	"strconv"
	"testing"

	"locksmith/api"
	"locksmith/modes"
)

// chained seals the text by hand, block by block.
func chained(t *testing.T, key, iv, text []byte) []byte {
	t.Helper()
	c := newCipher(t, key)
	plain := padded(text)
	ahead := [16]byte(iv)
	var box []byte
	for at := 0; at < len(plain); at += 16 {
		ahead = c.Seal(xored(ahead, [16]byte(plain[at:])))
		box = append(box, ahead[:]...)
	}
	return box
}

// boxOf seals bytes of whole blocks as they are, padded or not.
func boxOf(t *testing.T, key, iv, plain []byte) []byte {
	t.Helper()
	c, e := stdaes.NewCipher(key)
	if e != nil {
		t.Fatal(e)
	}
	box := make([]byte, len(plain))
	cipher.NewCBCEncrypter(c, iv).CryptBlocks(box, plain)
	return box
}

// checkChain holds both ways of a text against those by hand.
func checkChain(t *testing.T, key, iv, text []byte) {
	t.Helper()
	what := strconv.Itoa(len(text)) + " bytes under a key of " + strconv.Itoa(len(key))
	box, e := modes.Seal(key, iv, text)
	checkTaken(t, "Seal of "+what, box, e, chained(t, key, iv, text))
	if !bytes.Equal(box, boxOf(t, key, iv, padded(text))) {
		t.Errorf("9.1: Seal of %s: not as by another cipher", what)
	}
	x, e := modes.Open(key, iv, box)
	checkTaken(t, "9.2: Open of "+what, x, e, text)
}

// TestNistChains: SP 800-38A, F.2.1, F.2.3 and F.2.5, whose texts are not
// padded: a block more stands behind theirs.
func TestNistChains(t *testing.T) {
	text, iv := raw(t, nistText), raw(t, "000102030405060708090a0b0c0d0e0f")
	for _, c := range []struct{ key, box string }{
		{key128, "7649abac8119b246cee98e9b12e9197d 5086cb9b507219ee95db113a917678b2 73bed6b8e3c1743b7116e69e22229516 3ff1caa1681fac09120eca307586e1a7"},
		{key192, "4f021db243bc633d7178183a9fa071e8 b4d9ada9ad7dedf4e5e738763f69145a 571b242012fb7ae07fa9baac3df102e0 08b0e27988598881d920a9e64f5615cd"},
		{key256, "f58c4c04d6e5f1ba779eabfb5f7bfbd6 9cfc4e967edb808d679f777bc6702c7d 39f23369a9d9bacfa530e26304231461 b2eb05e2c39be9fcda6c19078c6a9d1b"},
	} {
		key, want := raw(t, c.key), raw(t, c.box)
		for n := 0; n <= len(text); n += 16 {
			box, e := modes.Seal(key, iv, text[:n])
			if e != api.OK || len(box) != n+16 || !bytes.Equal(box[:n], want[:n]) {
				t.Errorf("9.1: Seal of %d bytes of F.2 with %s: %x, %d, want %x and a block", n, c.key, box, e, want[:n])
			}
			x, e := modes.Open(key, iv, box)
			checkTaken(t, "9.2: Open of a box of F.2", x, e, text[:n])
		}
		x, e := modes.Open(key, iv, want)
		checkRefused(t, "Open of what is not padded", x, e, api.ErrPad)
	}
}

// TestChainsOfLengths: drawn keys, ivs and texts, of every length to 100.
func TestChainsOfLengths(t *testing.T) {
	draw := drawer(2)
	for _, k := range lengths {
		checkChain(t, draw(k), draw(16), nil)
		for n := range 101 {
			for range 5 {
				checkChain(t, draw(k), draw(16), draw(n))
			}
		}
		for _, n := range []int{255, 256, 257, 4095, 4096, 10007} {
			checkChain(t, draw(k), draw(16), draw(n))
		}
	}
}

// TestPlainChains: keys, ivs and texts of one value each.
func TestPlainChains(t *testing.T) {
	for _, k := range lengths {
		for _, value := range []byte{0, 1, 16, 0xff} {
			for _, n := range []int{0, 15, 16, 17, 31, 32, 48} {
				for _, other := range []byte{0, 1, 16, 0xff} {
					checkChain(t, bytes.Repeat([]byte{value}, k), bytes.Repeat([]byte{other}, 16), bytes.Repeat([]byte{value}, n))
				}
			}
		}
	}
}

// TestHowABoxHangs: a bit of the text turns its block and those behind it, one
// of the iv all of them, one of the key all; none of them one ahead.
func TestHowABoxHangs(t *testing.T) {
	draw := drawer(3)
	for _, k := range lengths {
		key, iv, text := draw(k), draw(16), draw(70)
		box := sealed(t, key, iv, text)
		for bit := range 8 * len(text) {
			checkTurned(t, "a bit of the text", box, sealed(t, key, iv, flipped(text, bit)), bit/8/16)
		}
		for bit := range 8 * len(iv) {
			checkTurned(t, "a bit of the iv", box, sealed(t, key, flipped(iv, bit), text), 0)
		}
		for bit := range 8 * len(key) {
			checkTurned(t, "a bit of the key", box, sealed(t, flipped(key, bit), iv, text), 0)
		}
	}
}

// checkTurned holds that two boxes differ in each block from that one on, and
// in none ahead.
func checkTurned(t *testing.T, what string, box, other []byte, from int) {
	t.Helper()
	if len(box) != len(other) {
		t.Fatalf("9.1: %s makes of %d bytes %d", what, len(box), len(other))
	}
	for at := 0; at < len(box); at += 16 {
		if bytes.Equal(box[at:at+16], other[at:at+16]) != (at/16 < from) {
			t.Errorf("9.1: %s in block %d: block %d is the wrong one to turn, or to stay", what, from, at/16)
		}
	}
}

// TestHowATextHangs: a bit of the iv turns that bit of the text, and no other.
func TestHowATextHangs(t *testing.T) {
	draw := drawer(4)
	for _, k := range lengths {
		key, iv, text := draw(k), draw(16), draw(40)
		box := sealed(t, key, iv, text)
		for bit := range 8 * len(iv) {
			x, e := modes.Open(key, flipped(iv, bit), box)
			checkTaken(t, "Open with a bit of the iv turned", x, e, flipped(text, bit))
		}
	}
}

// wrongKeys are such that are none of aes, with room behind them or none.
func wrongKeys(draw func(int) []byte) [][]byte {
	all := [][]byte{nil, {}, draw(40)[:15], draw(40)[:0], draw(128), draw(192), draw(256), draw(1<<8 + 16), draw(1<<16 + 16)}
	for n := range 70 {
		if n != 16 && n != 24 && n != 32 {
			all = append(all, draw(n))
		}
	}
	return all
}

// wrongIvs are such that have not 16 bytes.
func wrongIvs(draw func(int) []byte) [][]byte {
	all := [][]byte{nil, {}, draw(16)[:15], draw(16)[:0], draw(1<<8 + 16), draw(1<<16 + 16)}
	for n := range 70 {
		if n != 16 {
			all = append(all, draw(n))
		}
	}
	return all
}

// checkNoArg holds that both are ErrArg, whatever stands in the text or the box.
func checkNoArg(t *testing.T, key, iv []byte, boxes [][]byte) {
	t.Helper()
	what := "a key of " + strconv.Itoa(len(key)) + ", an iv of " + strconv.Itoa(len(iv)) + ", a box of "
	for _, box := range boxes {
		x, e := modes.Seal(key, iv, box)
		checkRefused(t, "Seal: "+what+strconv.Itoa(len(box)), x, e, api.ErrArg)
		x, e = modes.Open(key, iv, box)
		checkRefused(t, "Open: "+what+strconv.Itoa(len(box)), x, e, api.ErrArg)
	}
}

// TestWrongKeysAndIvs: each of them alone, and both; ahead of a box that is
// wrong, too.
func TestWrongKeysAndIvs(t *testing.T) {
	draw := drawer(5)
	boxes := [][]byte{nil, {}, {1}, draw(15), draw(17), make([]byte, 16), draw(32), bytes.Repeat([]byte{16}, 16)}
	for _, k := range lengths {
		key, iv := draw(k), draw(16)
		all := append([][]byte{sealed(t, key, iv, []byte("text"))}, boxes...)
		for _, wrong := range wrongIvs(draw) {
			checkNoArg(t, key, wrong, all)
		}
		for _, wrong := range wrongKeys(draw) {
			checkNoArg(t, wrong, iv, all)
			checkNoArg(t, wrong, nil, all)
			checkNoArg(t, wrong, wrong, all)
		}
		// as if they were told the other way round
		if k != 16 {
			checkNoArg(t, iv, key, all)
		}
	}
}

// TestOpenOfLengths: none but those of whole blocks, also where they begin as
// a box that may be, or end as one.
func TestOpenOfLengths(t *testing.T) {
	draw := drawer(6)
	for _, k := range lengths {
		key, iv, text := draw(k), draw(16), draw(150)
		box := sealed(t, key, iv, text)
		for what, b := range map[string][]byte{"nil": nil, "no bytes": {}, "no bytes with room": box[:0]} {
			x, e := modes.Open(key, iv, b)
			checkRefused(t, "Open of "+what, x, e, api.ErrPad)
		}
		for n := range len(box) {
			if n%16 == 0 {
				continue
			}
			x, e := modes.Open(key, iv, box[:n])
			checkRefused(t, "Open of the first "+strconv.Itoa(n)+" bytes", x, e, api.ErrPad)
			x, e = modes.Open(key, iv, box[n:])
			checkRefused(t, "Open of all behind the first "+strconv.Itoa(n)+" bytes", x, e, api.ErrPad)
			x, e = modes.Open(key, iv, joined(box, make([]byte, n)))
			checkRefused(t, "Open of "+strconv.Itoa(n)+" bytes 0 more", x, e, api.ErrPad)
		}
	}
}

// TestOpenFromAnyBlock: the block ahead is what an iv would be.
func TestOpenFromAnyBlock(t *testing.T) {
	draw := drawer(21)
	for _, k := range lengths {
		key, iv, text := draw(k), draw(16), draw(150)
		box := sealed(t, key, iv, text)
		for n := 16; n < len(box); n += 16 {
			x, e := modes.Open(key, box[n-16:n], box[n:])
			checkTaken(t, "Open of all behind "+strconv.Itoa(n)+" bytes", x, e, text[n:])
		}
	}
}

// TestOpenOfWrongEnds: boxes that open to bytes which do not end so, and such
// as do, though Seal made none of them.
func TestOpenOfWrongEnds(t *testing.T) {
	draw := drawer(7)
	for _, k := range lengths {
		key, iv := draw(k), draw(16)
		for _, size := range []int{16, 32, 48} {
			for value := range 256 {
				for _, last := range []int{0, 1, 2, 15, 16, 17, 32, 128, 255, value} {
					plain := bytes.Repeat([]byte{byte(value)}, size)
					plain[size-1] = byte(last)
					box := boxOf(t, key, iv, plain)
					x, e := modes.Open(key, iv, box)
					what := strconv.Itoa(size-1) + " bytes " + strconv.Itoa(value) + " and one " + strconv.Itoa(last)
					if last == 1 || last == value && value >= 1 && value <= 16 {
						checkTaken(t, "Open of "+what, x, e, plain[:size-last])
					} else {
						checkRefused(t, "Open of "+what, x, e, api.ErrPad)
					}
				}
			}
		}
	}
}

// TestOpenWithOthers: under another key, or of a turned box, it is what comes
// out that decides; a text is told only where that ends so.
func TestOpenWithOthers(t *testing.T) {
	draw := drawer(8)
	for _, k := range lengths {
		key, iv := draw(k), draw(16)
		box := sealed(t, key, iv, draw(20))
		for bit := range 8 * len(box) {
			checkOpened(t, key, iv, flipped(box, bit))
		}
		for range 2000 {
			checkOpened(t, draw(k), iv, box)
			checkOpened(t, key, iv, draw(32))
		}
	}
}

// checkOpened holds what Open answers against what comes out by another cipher.
func checkOpened(t *testing.T, key, iv, box []byte) {
	t.Helper()
	c, err := stdaes.NewCipher(key)
	if err != nil {
		t.Fatal(err)
	}
	plain := make([]byte, len(box))
	cipher.NewCBCDecrypter(c, iv).CryptBlocks(plain, box)
	x, e := modes.Open(key, iv, box)
	n := int(plain[len(plain)-1])
	if n >= 1 && n <= 16 && bytes.HasSuffix(plain, bytes.Repeat([]byte{byte(n)}, n)) {
		checkTaken(t, "Open of a turned box", x, e, plain[:len(plain)-n])
	} else {
		checkRefused(t, "Open of a turned box", x, e, api.ErrPad)
	}
}
