package aead

import (
	"bytes"
	"testing"

	"porthole/api"
)

// holdRefused tells that a box is not opened, by which error, and that no text
// stands beside it.
func holdRefused(t *testing.T, name string, s setting, box []byte) {
	t.Helper()
	want := api.ErrTag
	if len(box) < 16 {
		want = api.ErrShort
	}
	got, e := s.open(box)
	if e != want {
		t.Errorf("6.1: Open %s: %d, not %d", name, e, want)
	}
	if len(got) != 0 {
		t.Errorf("R3: Open %s: beside %d stands the text %x", name, e, got)
	}
}

// 6.1: fewer than 16 bytes, whatever they are; and 16, of which ErrTag may be
// told.
func TestShortBoxes(t *testing.T) {
	s := drawnSetting(20, 1)
	box := s.seal(nil)
	holdRefused(t, "of nil", s, nil)
	for n := range 16 {
		holdRefused(t, "of bytes of 0", s, make([]byte, n))
		holdRefused(t, "of a tag's beginning", s, box[:n])
		holdRefused(t, "of a tag's end", s, box[16-n:])
		holdRefused(t, "with room behind", s, append(bytes.Clone(box[:n]), box[n:]...)[:n])
		holdRefused(t, "with nothing at all", setting{}, make([]byte, n))
	}
	if got, e := s.open(make([]byte, 15)); e != api.ErrShort || len(got) != 0 {
		t.Errorf("6.1: Open of 15 bytes: %x %d, not ErrShort", got, e)
	}
	if got, e := s.open(make([]byte, 16)); e != api.ErrTag || len(got) != 0 {
		t.Errorf("6.1: Open of 16 bytes: %x %d, not ErrTag", got, e)
	}
	if got, e := s.open(box); e != api.OK || len(got) != 0 {
		t.Errorf("6.2: Open of a box of no text: %x %d", got, e)
	}
}

// 6.1: each bit of the text and of the tag alone, and each byte whole.
func TestEachBitTurned(t *testing.T) {
	for _, n := range edgeLengths() {
		s := drawnSetting(n, int64(n))
		box := s.seal(drawnText(n, 5))
		for i := range 8 * len(box) {
			bad := bytes.Clone(box)
			bad[i/8] ^= 1 << (i % 8)
			holdRefused(t, "of a box with one bit turned", s, bad)
		}
		for i := range box {
			bad := bytes.Clone(box)
			bad[i] ^= 0xff
			holdRefused(t, "of a box with one byte turned", s, bad)
		}
	}
}

// Two bytes turned alike: a comparison that sums up what parts would pass
// over them.
func TestTwoBytesTurnedAlike(t *testing.T) {
	s := drawnSetting(9, 2)
	box := s.seal(drawnText(20, 6))
	for i := range box {
		for j := range i {
			bad := bytes.Clone(box)
			bad[i] ^= 0x80
			bad[j] ^= 0x80
			holdRefused(t, "of a box with two bytes turned alike", s, bad)
			bad[i], bad[j] = box[j], box[i]
			if box[i] != box[j] {
				holdRefused(t, "of a box with two bytes that changed places", s, bad)
			}
		}
	}
}

// A tag of one's own making.
func TestOtherTags(t *testing.T) {
	s := drawnSetting(9, 3)
	box := s.seal(drawnText(20, 7))
	for _, tag := range [][]byte{make([]byte, 16), ones(16), s.seal(nil), box[:16]} {
		holdRefused(t, "of a box with another tag", s, append(bytes.Clone(box[:20]), tag...))
	}
	moved := append(bytes.Clone(box[20:]), box[:20]...)
	holdRefused(t, "of a box whose tag stands ahead", s, moved)
}

// A box that is cut at either end or in the midst, or longer at either end.
func TestCutAndLonger(t *testing.T) {
	for _, n := range edgeLengths() {
		s := drawnSetting(n, int64(n))
		box := s.seal(make([]byte, n))
		for i := range box {
			holdRefused(t, "of a box cut at its end", s, box[:i])
			holdRefused(t, "of a box cut at its beginning", s, box[i+1:])
			holdRefused(t, "of a box without one byte", s, append(bytes.Clone(box[:i]), box[i+1:]...))
		}
		for more := 1; more < 70; more++ {
			for _, extra := range [][]byte{make([]byte, more), ones(more), drawnText(more, 8)} {
				holdRefused(t, "of a box longer at its end", s, append(bytes.Clone(box), extra...))
				holdRefused(t, "of a box longer at its beginning", s, append(bytes.Clone(extra), box...))
				longer := append(append(bytes.Clone(box[:n]), extra...), box[n:]...)
				holdRefused(t, "of a box with more ahead of its tag", s, longer)
			}
		}
		holdRefused(t, "of a box twice", s, append(bytes.Clone(box), box...))
	}
}

// Each bit of the key and of the nonce counts.
func TestAnotherKeyOrNonce(t *testing.T) {
	for _, n := range edgeLengths() {
		s := drawnSetting(7, int64(n))
		box := s.seal(drawnText(n, 9))
		for i := range 256 {
			other := s
			other.key[i/8] ^= 1 << (i % 8)
			holdRefused(t, "with another key", other, box)
		}
		for i := range 96 {
			other := s
			other.nonce[i/8] ^= 1 << (i % 8)
			holdRefused(t, "with another nonce", other, box)
		}
	}
	for _, n := range []uint64{0, 1, 1 << 32, 1<<64 - 1} {
		s := setting{key: risingKey(), nonce: Nonce(n)}
		box := s.seal([]byte("text"))
		for _, m := range []uint64{n + 1, n - 1, n ^ 1<<32, ^n} {
			s.nonce = Nonce(m)
			holdRefused(t, "with the nonce of another number", s, box)
		}
	}
}

// Another ad: with one bit turned, cut, or longer, by bytes 0 too, which are
// as those that fill it up.
func TestAnotherAd(t *testing.T) {
	for _, n := range edgeLengths() {
		s := setting{risingKey(), risingNonce(), make([]byte, n)}
		box := s.seal(drawnText(n, 10))
		other := s
		for i := range 8 * n {
			other.ad = oneBit(i, n)
			holdRefused(t, "with an ad with one bit turned", other, box)
		}
		for m := range 100 {
			if m != n {
				other.ad = make([]byte, m)
				holdRefused(t, "with an ad of another length", other, box)
			}
		}
	}
}

// Ad and text are told apart by their lengths: bytes that stand at the end of
// the one do not pass for the beginning of the other, though what is tagged of
// them, but for the lengths, were the same.
func TestAdAndTextAreToldApart(t *testing.T) {
	for _, whole := range []int{16, 17, 32, 48, 64, 80} {
		for cut := range whole {
			s := drawnSetting(cut, int64(whole))
			box := s.seal(drawnText(whole-cut, 11))
			all := append(bytes.Clone(s.ad), box...)
			for other := range whole + 1 {
				if other == cut {
					continue
				}
				s.ad = all[:other]
				holdRefused(t, "with bytes that passed between ad and text", s, all[other:])
			}
		}
	}
}

// As above, where the filling has its part: an ad of 16 bytes ends in those
// that would fill a shorter one.
func TestTheFillingIsNoAd(t *testing.T) {
	for n := 1; n < 16; n++ {
		s := setting{key: risingKey(), nonce: risingNonce(), ad: pattern(n)}
		box := s.seal(pattern(n))
		s.ad = append(pattern(n), make([]byte, 16-n)...)
		holdRefused(t, "with an ad that was filled up", s, box)
		filled := append(bytes.Clone(box[:n]), make([]byte, 16-n)...)
		filled = append(filled, box[n:]...)
		s.ad = pattern(n)
		holdRefused(t, "of a box that was filled up", s, filled)
	}
	s := setting{key: risingKey(), nonce: risingNonce(), ad: nil}
	box := s.seal(pattern(32))
	s.ad = bytes.Clone(box[:16])
	holdRefused(t, "with a whole block that passed to the ad", s, box[16:])
	s.ad = bytes.Clone(box[:32])
	holdRefused(t, "with the whole text as the ad", s, box[32:])
}

// A box of one setting is none of another one.
func TestBoxesOfOthers(t *testing.T) {
	const n = 12
	var boxes [n][]byte
	for i := range boxes {
		boxes[i] = drawnSetting(5, int64(i)).seal([]byte("the same text"))
	}
	for i := range boxes {
		for j, box := range boxes {
			if s := drawnSetting(5, int64(i)); i != j {
				holdRefused(t, "of a box of another setting", s, box)
			}
		}
	}
}
