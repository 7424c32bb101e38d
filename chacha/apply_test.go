package chacha

import (
	"bytes"
	"crypto/sha256"
	"encoding/hex"
	"sync"
	"testing"
)

const spare = 0xa5

// lent is text with spare room behind it that holds known bytes.
func lent(text []byte) []byte {
	b := append(bytes.Clone(text), bytes.Repeat([]byte{spare}, 80)...)
	return b[:len(text)]
}

// untouched tells whether a lent list and its spare room are as they were.
func untouched(b, text []byte) bool {
	return bytes.Equal(b[:len(text)+80], append(bytes.Clone(text), bytes.Repeat([]byte{spare}, 80)...))
}

// overwrite turns every byte of b, its spare room included.
func overwrite(b []byte) {
	b = b[:cap(b)]
	for i := range b {
		b[i] ^= 0xff
	}
}

func applyTo(s setting, text []byte) []byte {
	return Apply(s.key, s.count, s.nonce, text)
}

// lengths at which something begins: a byte, a block, several of them.
func lengths() []int {
	return []int{0, 1, 2, 3, 4, 5, 31, 32, 33, 62, 63, 64, 65, 66, 127, 128, 129, 191, 192, 193, 255, 256, 257, 300, 640, 1000}
}

// sunscreen is RFC 8439's text (2.4.2).
const sunscreen = "Ladies and Gentlemen of the class of '99: If I could offer you only one tip for the future, sunscreen would be it."

// TestApplyKnown: RFC 8439, 2.4.2.
func TestApplyKnown(t *testing.T) {
	want := known(t, "6e2e359a2568f98041ba0728dd0d6981e97e7aec1d4360c20a27afccfd9fae0b"+
		"f91b65c5524733ab8f593dabcd62b3571639d624e65152ab8f530c359f0861d8"+
		"07ca0dbf500d6a6156a38e088a22b65e52bc514d16ccf806818ce91ab7793736"+
		"5af90bbf74a35be6b40b8eedf2785e42874d")
	nonce := [12]byte{7: 0x4a}
	if got := Apply(rising(), 1, nonce, []byte(sunscreen)); !bytes.Equal(got, want) {
		t.Errorf("4.1: Apply: %x, not %x", got, want)
	}
	if got := Apply(rising(), 1, nonce, want); string(got) != sunscreen {
		t.Errorf("4.2: applied twice: %q", got)
	}
	for n := range len(sunscreen) {
		if got := Apply(rising(), 1, nonce, []byte(sunscreen[:n])); !bytes.Equal(got, want[:n]) {
			t.Errorf("4.1: Apply of the first %d bytes: %x, not %x", n, got, want[:n])
		}
	}
}

// TestApplyLong: the digest is that of what OpenSSL's ChaCha20 makes of a
// megabyte of 0, and of one byte more.
func TestApplyLong(t *testing.T) {
	want := "123d7b561af5007360be41bc0e5f9015b5a17a7a328a4b8edbfe5c36096076c0"
	got := sha256.Sum256(Apply(rising(), 1, [12]byte{7: 0x4a}, make([]byte, 1<<20+1)))
	if hex.EncodeToString(got[:]) != want {
		t.Errorf("4.1: Apply of a megabyte: %x, not %s", got, want)
	}
}

func TestApplyOfNothing(t *testing.T) {
	for _, s := range edges() {
		for _, text := range [][]byte{nil, {}, lent(nil)} {
			if got := applyTo(s, text); len(got) != 0 {
				t.Errorf("4.1: Apply(%x, %d, %x) of nothing: %x", s.key, s.count, s.nonce, got)
			}
		}
	}
}

// Of a text of 0 what comes is the blocks themselves; of 1 in all bits, none
// of their bits.
func TestApplyIsTheBlocks(t *testing.T) {
	for _, s := range append(edges(), drawn(20, 45)...) {
		var blocks []byte
		for i := range uint32(3) {
			b := Block(s.key, s.count+i, s.nonce)
			blocks = append(blocks, b[:]...)
		}
		for _, n := range []int{1, 63, 64, 65, 127, 128, 129, 192} {
			if got := applyTo(s, make([]byte, n)); !bytes.Equal(got, blocks[:n]) {
				t.Errorf("4.1: Apply(%x, %d, %x) of %d bytes of 0: %x, not %x", s.key, s.count, s.nonce, n, got, blocks[:n])
			}
		}
		got := applyTo(s, bytes.Repeat([]byte{0xff}, 192))
		overwrite(got)
		if !bytes.Equal(got, blocks) {
			t.Errorf("4.1: Apply(%x, %d, %x) of bytes of ff: turned round it is %x", s.key, s.count, s.nonce, got)
		}
	}
}

// Behind the last count comes 0, and the nonce stays as it is.
func TestApplyRoundTheLastCount(t *testing.T) {
	for _, s := range drawn(10, 46) {
		for back := range uint32(4) {
			s.count = allOnes - back
			got := applyTo(s, make([]byte, 7*64+1))
			for i := range uint32(7) {
				want := Block(s.key, (allOnes-back)+i, s.nonce)
				if [64]byte(got[64*i:]) != want {
					t.Errorf("4.1: Apply from count %d on: block %d: %x, not %x", s.count, i, got[64*i:64*i+64], want)
				}
			}
			last := Block(s.key, 6-back, s.nonce)
			if got[7*64] != last[0] {
				t.Errorf("4.1: Apply from count %d on: the byte behind seven blocks: %x, not %x", s.count, got[7*64], last[0])
			}
		}
	}
}

func TestApplyAsReckonedPlainly(t *testing.T) {
	l := append(edges(), drawn(20, 47)...)
	for i, s := range l {
		n := lengths()[i%len(lengths())]
		text := drawnText(n, int64(i))
		if got, want := applyTo(s, text), plainApply(s.key, s.count, s.nonce, text); !bytes.Equal(got, want) {
			t.Errorf("4.1: Apply(%x, %d, %x) of %d bytes: %x, not %x", s.key, s.count, s.nonce, n, got, want)
		}
	}
}

// 4.2: whatever the length, the key, the count and the nonce.
func TestAppliedTwice(t *testing.T) {
	settings := append(edges(), drawn(50, 48)...)
	for n := range 400 {
		s := settings[n%len(settings)]
		holdTwice(t, s, drawnText(n, int64(n)))
		holdTwice(t, s, make([]byte, n))
	}
	for i, s := range settings {
		for _, n := range lengths() {
			holdTwice(t, s, drawnText(n, int64(i)))
		}
	}
	holdTwice(t, setting{rising(), allOnes - 100, [12]byte{}}, drawnText(1<<16+7, 1))
}

func holdTwice(t *testing.T, s setting, text []byte) {
	t.Helper()
	once := applyTo(s, text)
	if len(once) != len(text) {
		t.Errorf("4.1: Apply(%x, %d, %x) of %d bytes: %d bytes", s.key, s.count, s.nonce, len(text), len(once))
	}
	if len(text) >= 16 && bytes.Equal(once, text) {
		t.Errorf("4.1: Apply(%x, %d, %x) of %d bytes: the text itself", s.key, s.count, s.nonce, len(text))
	}
	if twice := applyTo(s, once); !bytes.Equal(twice, text) {
		t.Errorf("4.2: Apply(%x, %d, %x) of %d bytes: applied twice it is %x, not %x", s.key, s.count, s.nonce, len(text), twice, text)
	}
}

// What is applied with another key, count or nonce does not come back.
func TestAppliedTwiceWithOther(t *testing.T) {
	text := drawnText(200, 5)
	for _, s := range drawn(5, 49) {
		once := applyTo(s, text)
		for i := range 48 {
			if bytes.Equal(applyTo(withByteTurned(s, i), once), text) {
				t.Errorf("4.1: Apply(%x, %d, %x): byte %d is passed over", s.key, s.count, s.nonce, i)
			}
		}
	}
}

func TestApplyLeavesTheText(t *testing.T) {
	for _, s := range drawn(5, 50) {
		for _, n := range lengths() {
			text := drawnText(n, int64(n))
			given := lent(text)
			got := applyTo(s, given)
			if !untouched(given, text) {
				t.Errorf("R2: Apply of %d bytes has turned the text, or the room behind it", n)
			}
			overwrite(got)
			if !untouched(given, text) {
				t.Errorf("R2: Apply of %d bytes: its answer shares memory with the text", n)
			}
		}
	}
}

func TestApplyIsNewMemory(t *testing.T) {
	for _, s := range drawn(5, 51) {
		for _, n := range lengths() {
			given := lent(drawnText(n, int64(n)))
			first, second := applyTo(s, given), applyTo(s, given)
			want := bytes.Clone(first)
			overwrite(given)
			overwrite(second)
			if !bytes.Equal(first, want) {
				t.Errorf("R2: Apply of %d bytes: its answer shares memory with the text, or with another answer", n)
			}
		}
	}
}

// Nothing is kept from call to call, and calls beside one another are as calls
// one behind the other.
func TestApplyBesideOneAnother(t *testing.T) {
	l := drawn(16, 52)
	text := drawnText(1000, 6)
	got := make([][]byte, len(l))
	var all sync.WaitGroup
	for i := range l {
		all.Go(func() { got[i] = applyTo(l[i], text) })
	}
	all.Wait()
	for i, s := range l {
		if !bytes.Equal(got[i], applyTo(s, text)) {
			t.Errorf("R4: Apply(%x, %d, %x) is another one beside others", s.key, s.count, s.nonce)
		}
	}
}
