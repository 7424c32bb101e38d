package aead

import (
	"bytes"
	"sync"
	"testing"

	"porthole/api"
	"porthole/poly"
)

// 6.1: four bytes 0, and the number, the lowest byte first.
func TestNonce(t *testing.T) {
	for _, c := range []struct {
		n    uint64
		want [12]byte
	}{
		{0, [12]byte{}},
		{1, [12]byte{4: 1}},
		{255, [12]byte{4: 255}},
		{256, [12]byte{5: 1}},
		{1<<32 - 1, [12]byte{4: 255, 255, 255, 255}},
		{1 << 32, [12]byte{8: 1}},
		{1<<32 + 1, [12]byte{4: 1, 8: 1}},
		{1 << 56, [12]byte{11: 1}},
		{1 << 63, [12]byte{11: 128}},
		{1<<64 - 1, [12]byte{4: 255, 255, 255, 255, 255, 255, 255, 255}},
		{0x0102030405060708, [12]byte{4: 8, 7, 6, 5, 4, 3, 2, 1}},
	} {
		if got := Nonce(c.n); got != c.want {
			t.Errorf("6.1: Nonce(%d): %x, not %x", c.n, got, c.want)
		}
	}
	for i := range 64 {
		if got, want := Nonce(1<<i), [12]byte(append(make([]byte, 4), oneBit(i, 8)...)); got != want {
			t.Errorf("6.1: Nonce(2^%d): %x, not %x", i, got, want)
		}
	}
}

func TestOverhead(t *testing.T) {
	if Overhead != 16 {
		t.Errorf("6.1: Overhead is %d", Overhead)
	}
	for n := range 200 {
		if got := drawnSetting(n%23, int64(n)).seal(drawnText(n, 1)); len(got) != n+Overhead {
			t.Errorf("6.1: a box of %d bytes of text has %d", n, len(got))
		}
	}
}

// 6.1 and 6.2: texts and ads of all lengths that are edges, each with each,
// at all nonces that are.
func TestEachLengthWithEach(t *testing.T) {
	for _, n := range []uint64{0, 1, 1 << 32, 1<<64 - 1} {
		for _, ads := range edgeLengths() {
			for _, texts := range edgeLengths() {
				s := drawnSetting(ads, int64(100*ads+texts))
				s.nonce = Nonce(n)
				holdPlain(t, s, drawnText(texts, int64(texts)))
				holdPlain(t, s, make([]byte, texts))
				holdPlain(t, s, ones(texts))
				holdPlain(t, setting{nonce: s.nonce, ad: make([]byte, ads)}, make([]byte, texts))
				holdPlain(t, setting{[32]byte(ones(32)), s.nonce, ones(ads)}, ones(texts))
			}
		}
	}
}

func TestAsSealedPlainly(t *testing.T) {
	for i := range int64(1500) {
		holdPlain(t, drawnSetting(int(i%79), i), drawnText(int(i%211), -i))
	}
	holdPlain(t, drawnSetting(5000, 3), drawnText(9000, 4))
}

// 6.2: of every length.
func TestWhatWasSealedIsOpened(t *testing.T) {
	for n := range 400 {
		s := drawnSetting(n%37, int64(n))
		text := drawnText(n, int64(n))
		box := s.seal(text)
		if got, e := s.open(box); e != api.OK || !bytes.Equal(got, text) {
			t.Errorf("6.2: a box of %d bytes of text: %x %d, not %x", n, got, e, text)
		}
		if n >= 16 && bytes.Contains(box, text) {
			t.Errorf("6.1: a box of %d bytes of text shows them", n)
		}
	}
}

// nil and an empty list are the same, as ad, as text and as box.
func TestNoneAndEmpty(t *testing.T) {
	for i := range int64(20) {
		s := drawnSetting(0, i)
		none, empty, room := s, s, s
		none.ad, empty.ad, room.ad = nil, []byte{}, lent(nil)
		text := drawnText(int(3*i), i)
		want := none.seal(text)
		for _, other := range []setting{empty, room} {
			if got := other.seal(text); !bytes.Equal(got, want) {
				t.Errorf("R2: Seal with an empty ad: %x, with none %x", got, want)
			}
			if got, e := other.open(want); e != api.OK || !bytes.Equal(got, text) {
				t.Errorf("R2: Open with an empty ad of what was sealed with none: %x %d", got, e)
			}
		}
		s.ad = drawnText(int(i), i)
		want = s.seal(nil)
		for _, nothing := range [][]byte{{}, lent(nil)} {
			if got := s.seal(nothing); !bytes.Equal(got, want) {
				t.Errorf("R2: Seal of an empty text: %x, of none %x", got, want)
			}
			if got, e := s.open(nothing); e != api.ErrShort || len(got) != 0 {
				t.Errorf("R2: Open of an empty box: %x %d, not ErrShort", got, e)
			}
		}
	}
}

// The tag's key is the block of count 0, and no other block: what hides the
// text tells nothing of it.
func TestTheTagHasItsOwnKey(t *testing.T) {
	for i := range int64(20) {
		s := drawnSetting(0, i)
		box := s.seal(make([]byte, 64))
		lengths := make([]byte, 16)
		lengths[8] = 64
		tag := poly.Tag([32]byte(box), append(bytes.Clone(box[:64]), lengths...))
		if bytes.Equal(tag[:], box[64:]) {
			t.Errorf("6.1: Seal: the tag's key is what hides the text")
		}
		key := oneTimeKey(s.key, s.nonce)
		if bytes.Contains(box, key[:]) {
			t.Errorf("6.1: Seal: the box shows the one-time key")
		}
	}
}

// A box hangs on what is handed in alone, whatever was sealed and opened
// between, and beside it.
func TestTheSameAgain(t *testing.T) {
	const n = 64
	first, again, back := make([][]byte, n), make([][]byte, n), make([][]byte, n)
	for i := range first {
		first[i] = drawnSetting(i, int64(i)).seal(pattern(3 * i))
	}
	var all sync.WaitGroup
	for i := range first {
		all.Go(func() {
			s := drawnSetting(i, int64(i))
			again[i] = s.seal(pattern(3 * i))
			back[i], _ = s.open(first[i])
		})
	}
	all.Wait()
	for i := range first {
		if !bytes.Equal(again[i], first[i]) || !bytes.Equal(back[i], pattern(3*i)) {
			t.Errorf("R4: box %d is another one later: %x, at first %x; opened it is %x", i, again[i], first[i], back[i])
		}
	}
}
