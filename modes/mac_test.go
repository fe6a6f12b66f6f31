package modes_test

import (
	"bytes"
	"strconv"
	"testing"

	"locksmith/api"
	"locksmith/modes"
)

// macKeys answers L, K1 and K2 of a key.
func macKeys(t *testing.T, key []byte) (l, k1, k2 [16]byte) {
	t.Helper()
	l = newCipher(t, key).Seal([16]byte{})
	k1 = shifted(l)
	return l, k1, shifted(k1)
}

// macOf tags the text by hand, block by block.
func macOf(t *testing.T, key, text []byte) []byte {
	t.Helper()
	c := newCipher(t, key)
	_, k1, k2 := macKeys(t, key)
	var ahead [16]byte
	for len(text) > 16 {
		ahead = c.Seal(xored(ahead, [16]byte(text)))
		text = text[16:]
	}
	var last [16]byte
	copy(last[:], text)
	if len(text) == 16 {
		last = xored(last, k1)
	} else {
		last[len(text)] = 0x80
		last = xored(last, k2)
	}
	tag := c.Seal(xored(ahead, last))
	return tag[:]
}

func checkMac(t *testing.T, key, text []byte) {
	t.Helper()
	tag, e := modes.Mac(key, text)
	checkTaken(t, "Mac of "+strconv.Itoa(len(text))+" bytes under "+strconv.Itoa(len(key)), tag, e, macOf(t, key, text))
}

// TestRfcMacs: the four of RFC 4493, and those of SP 800-38B for longer keys.
func TestRfcMacs(t *testing.T) {
	text := raw(t, nistText)
	for _, c := range []struct {
		key  string
		size int
		want string
	}{
		{key128, 0, "bb1d6929e95937287fa37d129b756746"},
		{key128, 16, "070a16b46b4d4144f79bdd9dd04a287c"},
		{key128, 40, "dfa66747de9ae63030ca32611497c827"},
		{key128, 64, "51f0bebf7e3b9d92fc49741779363cfe"},
		{key192, 0, "d17ddf46adaacde531cac483de7a9367"},
		{key192, 16, "9e99a7bf31e710900662f65e617c5184"},
		{key192, 40, "8a1de5be2eb31aad089a82e6ee908b0e"},
		{key192, 64, "a1d5df0eed790f794d77589659f39a11"},
		{key256, 0, "028962f61b7bf89efc6b551f4667d983"},
		{key256, 16, "28a7023f452e8f82bd4bf28d8c37c35c"},
		{key256, 40, "aaf3d8f1de5640c232f5b169b9c911e6"},
		{key256, 64, "e1992190549f6ed5696a2c056c315410"},
	} {
		tag, e := modes.Mac(raw(t, c.key), text[:c.size])
		checkTaken(t, "Mac of "+strconv.Itoa(c.size)+" bytes with "+c.key, tag, e, raw(t, c.want))
	}
	tag, e := modes.Mac(raw(t, key128), nil)
	checkTaken(t, "Mac of nil", tag, e, raw(t, "bb1d6929e95937287fa37d129b756746"))
}

// TestMacsOfFirstBits: keys under which the first bit of L, and that of K1, is
// 1 and is 0, all four ways.
func TestMacsOfFirstBits(t *testing.T) {
	draw := drawer(9)
	for _, k := range lengths {
		seen := map[[2]byte]int{}
		for len(seen) < 4 || min(seen[[2]byte{0, 0}], seen[[2]byte{0, 1}], seen[[2]byte{1, 0}], seen[[2]byte{1, 1}]) < 10 {
			key := draw(k)
			l, k1, _ := macKeys(t, key)
			seen[[2]byte{l[0] >> 7, k1[0] >> 7}]++
			for _, n := range []int{0, 1, 15, 16, 17, 32, 33} {
				checkMac(t, key, draw(n))
			}
		}
	}
}

// TestMacsOfLengths: drawn keys and texts, of every length to 64, and longer
// ones.
func TestMacsOfLengths(t *testing.T) {
	draw := drawer(10)
	for _, k := range lengths {
		checkMac(t, draw(k), nil)
		for n := range 65 {
			for range 5 {
				checkMac(t, draw(k), draw(n))
			}
			for _, value := range []byte{0, 0x80, 0xff} {
				checkMac(t, draw(k), bytes.Repeat([]byte{value}, n))
			}
		}
		for _, n := range []int{255, 256, 257, 4095, 4096, 10007} {
			checkMac(t, draw(k), draw(n))
		}
	}
}

// TestTextsThatDiffer: in one bit, or in what fills the last block, are tagged
// otherwise.
func TestTextsThatDiffer(t *testing.T) {
	draw := drawer(11)
	for _, k := range lengths {
		key := draw(k)
		tags, texts := map[string]int{}, 0
		add := func(text []byte) {
			tags[string(tagged(t, key, text))]++
			texts++
		}
		for n := range 50 {
			add(make([]byte, n))
			add(joined(make([]byte, n), []byte{0x80}))
			if n > 0 {
				add(joined([]byte{0x80}, make([]byte, n)))
			}
		}
		long := draw(50)
		for bit := range 8 * len(long) {
			add(flipped(long, bit))
		}
		for bit := range 8 * 48 {
			add(flipped(long[:48], bit))
		}
		if len(tags) != texts {
			t.Errorf("9.1: %d texts have %d tags", texts, len(tags))
		}
	}
}

// TestKeysThatDiffer: in one bit tag a text otherwise.
func TestKeysThatDiffer(t *testing.T) {
	draw := drawer(12)
	text := draw(20)
	for _, k := range lengths {
		key := draw(k)
		tags := map[string]int{string(tagged(t, key, text)): 1}
		for bit := range 8 * k {
			tags[string(tagged(t, flipped(key, bit), text))]++
		}
		if len(tags) != 8*k+1 {
			t.Errorf("9.1: %d keys make %d tags", 8*k+1, len(tags))
		}
	}
}

func TestMacsOfWrongKeys(t *testing.T) {
	draw := drawer(13)
	for _, key := range wrongKeys(draw) {
		for _, text := range [][]byte{nil, {}, {1}, draw(15), draw(16), draw(17), draw(64)} {
			tag, e := modes.Mac(key, text)
			checkRefused(t, "Mac: a key of "+strconv.Itoa(len(key)), tag, e, api.ErrArg)
		}
	}
}
