package cipher

import (
	"fmt"
	"slices"
	"testing"

	"porthole/aead"
	"porthole/api"
)

// What one seals the other opens, in order, whatever the lengths.
func TestWhatOneSealsTheOtherOpens(t *testing.T) {
	key := drawnKey(1)
	s, r := begun(key), begun(key)
	n := uint64(0)
	for _, ads := range edgeLengths() {
		for _, length := range edgeLengths() {
			ad, text := drawnText(ads, 2), drawnText(length, 3)
			box, _ := s.Seal(ad, text)
			got, e := r.Open(ad, box)
			n++
			holdAnswer(t, fmt.Sprintf("9.1: Open of %d and %d bytes", ads, length), got, e, text, api.OK)
			holdState(t, "9.1: behind Open", r, plain{true, key, n})
		}
	}
}

// Seal and Open of one state use one count.
func TestSealAndOpenShareTheCount(t *testing.T) {
	key, text := drawnKey(4), drawnText(20, 5)
	s := begun(key)
	for n := uint64(0); n < 60; n++ {
		box := aead.Seal(key, aead.Nonce(n), text, text)
		if n%3 == 1 {
			got, e := s.Open(text, box)
			holdAnswer(t, "9.1: Open between", got, e, text, api.OK)
		} else {
			got, e := s.Seal(text, text)
			holdAnswer(t, "9.1: Seal between", got, e, box, api.OK)
		}
		holdState(t, "9.1: in turn", s, plain{true, key, n + 1})
	}
}

// Open at each edge nonce.
func TestOpenAtEachNonce(t *testing.T) {
	for _, key := range edgeKeys() {
		for _, n := range edgeNonces() {
			s := begunAt(key, n)
			ad, text := drawnText(7, 6), drawnText(33, 7)
			got, e := s.Open(ad, aead.Seal(key, aead.Nonce(n), ad, text))
			name := fmt.Sprintf("9.1: Open at nonce %d", n)
			holdAnswer(t, name, got, e, text, api.OK)
			holdState(t, name, s, plain{true, key, n + 1})
		}
	}
}

// holdRefused holds that a state refuses a box with an error, is as it was,
// and takes the right one next.
func holdRefused(t *testing.T, name string, at plain, ad, box []byte, want api.Errno) {
	t.Helper()
	s := begunAt(at.key, at.nonce)
	for range 2 {
		got, e := s.Open(ad, box)
		holdAnswer(t, name, got, e, nil, want)
		if cap(got) != 0 {
			t.Errorf("R3: %s: beside the error stands room for %d bytes", name, cap(got))
		}
		holdState(t, name, s, at)
	}
	text := drawnText(12, 8)
	got, e := s.Open(ad, aead.Seal(at.key, aead.Nonce(at.nonce), ad, text))
	holdAnswer(t, name+", and then the right one", got, e, text, api.OK)
	holdState(t, name+", and then the right one", s, plain{true, at.key, at.nonce + 1})
}

// A bit turned, in any byte of the text, of the tag, of ad.
func TestOpenOfTurnedBytes(t *testing.T) {
	for _, n := range []uint64{0, 1, 1 << 32, Last - 1} {
		for _, length := range []int{0, 1, 16, 70} {
			at := plain{true, drawnKey(9), n}
			ad, text := drawnText(20, 10), drawnText(length, 11)
			box := aead.Seal(at.key, aead.Nonce(n), ad, text)
			for i := range box {
				holdRefused(t, fmt.Sprintf("9.1: Open of %d bytes, byte %d turned", length, i), at, ad, turnedAt(box, i), api.ErrTag)
			}
			for i := range ad {
				holdRefused(t, fmt.Sprintf("9.1: Open, byte %d of ad turned", i), at, turnedAt(ad, i), box, api.ErrTag)
			}
			holdRefused(t, "9.1: Open without the ad", at, nil, box, api.ErrTag)
			holdRefused(t, "9.1: Open with less of the ad", at, ad[1:], box, api.ErrTag)
			holdRefused(t, "9.1: Open of one byte more", at, ad, append(box, 0), api.ErrTag)
		}
	}
}

// Less than a tag is ErrShort; from 16 bytes on it is ErrTag.
func TestOpenOfCutBoxes(t *testing.T) {
	at := plain{true, drawnKey(12), 5}
	ad, text := drawnText(20, 13), drawnText(40, 14)
	box := aead.Seal(at.key, aead.Nonce(at.nonce), ad, text)
	for n := range len(box) {
		want := api.ErrTag
		if n < aead.Overhead {
			want = api.ErrShort
		}
		holdRefused(t, fmt.Sprintf("9.1: Open of %d bytes of a box", n), at, ad, box[:n], want)
		holdRefused(t, fmt.Sprintf("9.1: Open of %d bytes 0", n), at, ad, make([]byte, n), want)
	}
}

// A box of another nonce, of another key: those of boxes ahead and behind
// among them, and what the next key sealed.
func TestOpenOfOtherBoxes(t *testing.T) {
	key, ad, text := drawnKey(15), drawnText(3, 16), drawnText(30, 17)
	all := append(edgeNonces(), 3, 4, 5, Last)
	for _, n := range edgeNonces() {
		at := plain{true, key, n}
		for _, other := range append(all, n-1, n+1, n^1<<32, n^1<<63) {
			if other != n {
				name := fmt.Sprintf("9.1: Open at nonce %d of a box of %d", n, other)
				holdRefused(t, name, at, ad, aead.Seal(key, aead.Nonce(other), ad, text), api.ErrTag)
			}
		}
		for _, other := range append(edgeKeys(), nextKey(key)) {
			holdRefused(t, "9.1: Open of another key's", at, ad, aead.Seal(other, aead.Nonce(n), ad, text), api.ErrTag)
		}
	}
}

// Boxes that come twice, in the wrong order, with one left out: each is taken
// at its own place alone.
func TestOpenOutOfOrder(t *testing.T) {
	const count = 12
	key, ad := drawnKey(18), drawnText(5, 19)
	var boxes [][]byte
	s := begun(key)
	for i := range count {
		box, _ := s.Seal(ad, drawnText(i, 20))
		boxes = append(boxes, box)
	}
	r := begun(key)
	for i := range count {
		for k := count - 1; k >= 0; k-- {
			if k != i {
				got, e := r.Open(ad, boxes[k])
				holdAnswer(t, fmt.Sprintf("9.1: box %d at the place of %d", k, i), got, e, nil, api.ErrTag)
				holdState(t, "9.1: out of order", r, plain{true, key, uint64(i)})
			}
		}
		got, e := r.Open(ad, boxes[i])
		holdAnswer(t, fmt.Sprintf("9.1: box %d at its place", i), got, e, drawnText(i, 20), api.OK)
	}
	slices.Reverse(boxes)
	for i, box := range boxes {
		got, e := r.Open(ad, box)
		holdAnswer(t, fmt.Sprintf("9.1: box %d, the second time", count-1-i), got, e, nil, api.ErrTag)
	}
	r.SetNonce(3)
	got, e := r.Open(ad, boxes[count-1-3])
	holdAnswer(t, "9.1: box 3, when its nonce is set", got, e, drawnText(3, 20), api.OK)
}

// At Last nothing is opened any more: not what the key has sealed with that
// nonce; and that is told ahead of all that is wrong with a box.
func TestOpenWhenSpent(t *testing.T) {
	for _, key := range edgeKeys() {
		for _, s := range spentStates(key) {
			ad, text := drawnText(4, 21), drawnText(20, 22)
			right := aead.Seal(key, aead.Nonce(Last), ad, text)
			for _, box := range [][]byte{
				right, turnedAt(right, 0), turnedAt(right, 25), right[:16], right[:15], {0}, nil,
				aead.Seal(key, aead.Nonce(Last-1), ad, text), aead.Seal(key, aead.Nonce(0), ad, text),
			} {
				got, e := s.Open(ad, box)
				holdAnswer(t, fmt.Sprintf("9.1: Open of %d bytes at Last", len(box)), got, e, nil, api.ErrSpent)
				if cap(got) != 0 {
					t.Errorf("R3: beside ErrSpent stands room for %d bytes", cap(got))
				}
				holdState(t, "9.1: behind Open at Last", s, plain{true, key, Last})
			}
		}
	}
}
