package aead

import (
	"bytes"
	"testing"

	"porthole/api"
)

const (
	spare = 0xa5
	room  = 80
)

// lent is text with spare room behind it that holds known bytes.
func lent(text []byte) []byte {
	return withRoom(text)[:len(text)]
}

// withRoom is what lies at a lent list, its spare room included.
func withRoom(text []byte) []byte {
	return append(bytes.Clone(text), bytes.Repeat([]byte{spare}, room)...)
}

// untouched tells whether a lent list and its spare room are as they were.
func untouched(b, text []byte) bool {
	return bytes.Equal(b[:len(text)+room], withRoom(text))
}

// overwrite turns every byte of b, its spare room included.
func overwrite(b []byte) {
	b = b[:cap(b)]
	for i := range b {
		b[i] ^= 0xff
	}
}

// holdMemory seals or opens by call what is lent, and tells what was turned of
// it, or is shared with it.
func holdMemory(t *testing.T, name string, ad, b []byte, call func(ad, b []byte) []byte) {
	t.Helper()
	lentAd, lentB := lent(ad), lent(b)
	first, second := call(lentAd, lentB), call(lentAd, lentB)
	want := call(ad, b)
	if !bytes.Equal(first, want) {
		t.Errorf("R2: %s hangs on the room behind what is handed in", name)
	}
	if !untouched(lentAd, ad) || !untouched(lentB, b) {
		t.Errorf("R2: %s of %d and %d bytes has turned what was handed in, or the room behind it", name, len(ad), len(b))
	}
	overwrite(second)
	if !untouched(lentAd, ad) || !untouched(lentB, b) {
		t.Errorf("R2: %s of %d and %d bytes: its answer shares memory with what was handed in", name, len(ad), len(b))
	}
	overwrite(lentAd)
	overwrite(lentB)
	if !bytes.Equal(first, want) {
		t.Errorf("R2: %s of %d and %d bytes: its answer shares memory with what was handed in, or with another answer", name, len(ad), len(b))
	}
}

func TestWhatIsHandedInStays(t *testing.T) {
	for _, ads := range edgeLengths() {
		for _, n := range edgeLengths() {
			s := drawnSetting(ads, int64(ads))
			text := drawnText(n, int64(n))
			holdMemory(t, "Seal", s.ad, text, func(ad, b []byte) []byte { return Seal(s.key, s.nonce, ad, b) })
			holdMemory(t, "Open", s.ad, s.seal(text), func(ad, b []byte) []byte {
				text, _ := Open(s.key, s.nonce, ad, b)
				return text
			})
			holdMemory(t, "Open with ErrTag", s.ad, ones(n+16), func(ad, b []byte) []byte {
				text, _ := Open(s.key, s.nonce, ad, b)
				return text
			})
		}
	}
	for n := range 16 {
		holdMemory(t, "Open with ErrShort", pattern(n), pattern(n), func(ad, b []byte) []byte {
			text, _ := Open(risingKey(), risingNonce(), ad, b)
			return text
		})
	}
}

// One list may be the ad and the text, or lie in the midst of it.
func TestOneListAsBoth(t *testing.T) {
	for n := range 100 {
		s := drawnSetting(0, int64(n))
		both := lent(drawnText(n, int64(n)))
		apart := setting{s.key, s.nonce, bytes.Clone(both[n/3:])}
		s.ad = both[n/3:]
		box := s.seal(both)
		if !bytes.Equal(box, apart.seal(bytes.Clone(both))) {
			t.Errorf("R2: Seal of a text that its ad lies in: %x", box)
		}
		if !untouched(both, drawnText(n, int64(n))) {
			t.Errorf("R2: Seal of a text that its ad lies in has turned it")
		}
		if got, e := s.open(box); e != api.OK || !bytes.Equal(got, both) {
			t.Errorf("6.2: Open of a box of a text that its ad lay in: %x %d", got, e)
		}
	}
}

// A text that is answered beside an error would be found by its capacity, too.
func TestBesideAnErrorIsNoRoom(t *testing.T) {
	s := drawnSetting(3, 4)
	box := s.seal(drawnText(40, 12))
	box[0] ^= 1
	for _, b := range [][]byte{box, box[:15]} {
		if got, e := s.open(b); cap(got) != 0 {
			t.Errorf("R3: Open: beside %d stands room for %d bytes: %x", e, cap(got), got[:cap(got)])
		}
	}
}
