package cipher

import (
	"fmt"
	"testing"

	"porthole/aead"
	"porthole/api"
	"porthole/chacha"
)

// The key as the sentence says it; the nonce stays, whatever it is, Last too.
func TestRekey(t *testing.T) {
	for _, key := range edgeKeys() {
		for _, n := range append(edgeNonces(), Last) {
			s := begunAt(key, n)
			want := key
			for i := range 3 {
				want = [32]byte(aead.Seal(want, [12]byte{4: 255, 255, 255, 255, 255, 255, 255, 255}, nil, make([]byte, 32)))
				if e := s.Rekey(); e != api.OK {
					t.Errorf("9.1: Rekey %d: %d", i, e)
				}
				holdState(t, fmt.Sprintf("9.1: Rekey %d of %x at nonce %d", i, key, n), s, plain{true, want, n})
			}
		}
	}
}

// The same by the layer below: 32 bytes of ChaCha20, of count 1.
func TestRekeyIsABlock(t *testing.T) {
	for i := range int64(100) {
		key := drawnKey(i)
		s := begun(key)
		s.Rekey()
		block := chacha.Block(key, 1, [12]byte{4: 255, 255, 255, 255, 255, 255, 255, 255})
		if s.Key() != [32]byte(block[:]) {
			t.Errorf("9.1: Rekey of %x: %x, not %x", key, s.Key(), block[:32])
		}
	}
}

// All that comes is of the new key, and of the nonce that comes next.
func TestSealAndOpenBehindRekey(t *testing.T) {
	key, ad, text := drawnKey(1), drawnText(5, 2), drawnText(40, 3)
	for _, n := range edgeNonces() {
		s, r := begunAt(key, n), begunAt(key, n)
		s.Rekey()
		box, e := s.Seal(ad, text)
		holdAnswer(t, "9.1: Rekey, Seal", box, e, aead.Seal(nextKey(key), aead.Nonce(n), ad, text), api.OK)
		got, e := r.Open(ad, box)
		holdAnswer(t, "9.1: Open of it without Rekey", got, e, nil, api.ErrTag)
		r.Rekey()
		got, e = r.Open(ad, aead.Seal(key, aead.Nonce(n), ad, text))
		holdAnswer(t, "9.1: Rekey, Open of the key ahead", got, e, nil, api.ErrTag)
		got, e = r.Open(ad, box)
		holdAnswer(t, "9.1: Rekey, Open", got, e, text, api.OK)
	}
}

// Two states with one key follow one another over Rekeys of both, wherever
// these lie, and in both directions.
func TestTwoStatesOverRekeys(t *testing.T) {
	for _, every := range []int{1, 2, 3, 7, 16} {
		s, r := begun(drawnKey(4)), begun(drawnKey(4))
		keys := map[[32]byte]bool{}
		for i := range 200 {
			ad, text := drawnText(i%17, 5), drawnText(i, 6)
			box, e := s.Seal(ad, text)
			if e != api.OK {
				t.Fatalf("9.1: Seal %d: %d", i, e)
			}
			got, e := r.Open(ad, box)
			holdAnswer(t, fmt.Sprintf("9.1: box %d, a Rekey every %d", i, every), got, e, text, api.OK)
			keys[s.Key()] = true
			if (i+1)%every == 0 {
				s.Rekey()
				r.Rekey()
			}
			holdState(t, "9.1: the other one", r, plain{true, s.Key(), uint64(i + 1)})
			if i%5 == 4 {
				s, r = r, s
			}
		}
		if want := (199 + every) / every; len(keys) != want {
			t.Errorf("9.1: a Rekey every %d: %d keys, not %d", every, len(keys), want)
		}
	}
}

// Without a key it stays so, and a later Init counts.
func TestRekeyWithoutAKey(t *testing.T) {
	s := New()
	for range 3 {
		if e := s.Rekey(); e != api.ErrState {
			t.Errorf("9.1: Rekey without a key: %d, not ErrState", e)
		}
		holdState(t, "9.1: behind Rekey without a key", s, plain{})
	}
	s.Init(drawnKey(7))
	holdState(t, "9.1: Init behind that", s, plain{true, drawnKey(7), 0})
	if e := s.Rekey(); e != api.OK {
		t.Errorf("9.1: Rekey: %d", e)
	}
	holdState(t, "9.1: Rekey behind that", s, plain{true, nextKey(drawnKey(7)), 0})
}
