package cipher

import (
	"fmt"
	"math/rand"
	"testing"

	"porthole/aead"
	"porthole/api"
)

// The chapter's example.
func TestTheExample(t *testing.T) {
	s := New()
	s.Init(drawnKey(1))
	s.SetNonce(Last - 1)
	text := []byte("text")
	got, e := s.Seal(nil, text)
	holdAnswer(t, "9.1: the first", got, e, aead.Seal(drawnKey(1), aead.Nonce(Last-1), nil, text), api.OK)
	got, e = s.Seal(nil, text)
	holdAnswer(t, "9.1: the second", got, e, nil, api.ErrSpent)
}

// Many in a row: each is of the nonce behind the one ahead.
func TestManySealsInARow(t *testing.T) {
	key, ad, text := drawnKey(2), drawnText(9, 3), drawnText(30, 4)
	s := begun(key)
	for n := range uint64(70000) {
		got, e := s.Seal(ad, text)
		if want := aead.Seal(key, aead.Nonce(n), ad, text); n < 1000 || n%97 == 0 || n > 65500 && n < 65600 {
			holdAnswer(t, fmt.Sprintf("9.1: Seal %d", n), got, e, want, api.OK)
		}
		if s.Nonce() != n+1 {
			t.Fatalf("9.1: behind Seal %d the nonce is %d", n, s.Nonce())
		}
	}
	holdState(t, "9.1: behind many", s, plain{true, key, 70000})
}

// Rows that go past the ends of words.
func TestSealsPastTheEndsOfWords(t *testing.T) {
	key, text := drawnKey(5), drawnText(30, 6)
	for _, from := range []uint64{1<<8 - 5, 1<<16 - 5, 1<<31 - 5, 1<<32 - 5, 1<<48 - 5, 1<<63 - 5} {
		s := begunAt(key, from)
		for n := from; n < from+10; n++ {
			got, e := s.Seal(text, text)
			holdAnswer(t, fmt.Sprintf("9.1: Seal of nonce %d", n), got, e, aead.Seal(key, aead.Nonce(n), text, text), api.OK)
			holdState(t, fmt.Sprintf("9.1: behind Seal of nonce %d", n), s, plain{true, key, n + 1})
		}
	}
}

// Texts and ads of each edge length with each, with each key, each nonce.
func TestSealOfEachLength(t *testing.T) {
	for i, key := range edgeKeys() {
		for k, n := range edgeNonces() {
			for _, ads := range edgeLengths() {
				text := drawnText(edgeLengths()[(i+k+ads)%16], int64(k))
				ad := drawnText(ads, int64(i))
				s := begunAt(key, n)
				got, e := s.Seal(ad, text)
				name := fmt.Sprintf("9.1: Seal(%x, %x) of key %x, nonce %d", ad, text, key, n)
				holdAnswer(t, name, got, e, aead.Seal(key, aead.Nonce(n), ad, text), api.OK)
				holdState(t, name, s, plain{true, key, n + 1})
			}
		}
	}
	s, p := begun(drawnKey(7)), plain{true, drawnKey(7), 0}
	for _, ads := range edgeLengths() {
		for _, n := range edgeLengths() {
			ad, text := drawnText(ads, 8), drawnText(n, 9)
			want, _ := p.seal(ad, text)
			got, e := s.Seal(ad, text)
			holdAnswer(t, fmt.Sprintf("9.1: Seal of %d and %d bytes", ads, n), got, e, want, api.OK)
		}
	}
}

func TestAMegabyte(t *testing.T) {
	big, small := drawnText(1<<20, 10), drawnText(3, 11)
	s, r, p := begun(drawnKey(12)), begun(drawnKey(12)), plain{true, drawnKey(12), 0}
	for _, c := range [][2][]byte{{nil, big}, {big, nil}, {small, big}, {big, small}, {big, big}, {small, small}} {
		name := fmt.Sprintf("9.1: %d and %d bytes", len(c[0]), len(c[1]))
		want, _ := p.seal(c[0], c[1])
		box, e := s.Seal(c[0], c[1])
		holdAnswer(t, name+": Seal", box, e, want, api.OK)
		got, e := r.Open(c[0], box)
		holdAnswer(t, name+": Open", got, e, c[1], api.OK)
	}
	got, e := New().Seal(big, big)
	holdAnswer(t, "9.1: Seal of a megabyte without a key", got, e, big, api.OK)
	got, e = New().Open(big, big)
	holdAnswer(t, "9.1: Open of a megabyte without a key", got, e, big, api.OK)
}

// R2: nil, an empty list and one with room behind it are the same.
func TestNoneAndEmpty(t *testing.T) {
	nothing := [][]byte{nil, {}, make([]byte, 0, 64), lent(nil)}
	key, b := drawnKey(13), drawnText(20, 14)
	for i, none := range nothing {
		for k, other := range nothing {
			name := fmt.Sprintf("R2: no bytes, told in ways %d and %d: ", i, k)
			s, r := begun(key), begun(key)
			box, e := s.Seal(none, other)
			holdAnswer(t, name+"Seal", box, e, aead.Seal(key, aead.Nonce(0), nil, nil), api.OK)
			got, e := r.Open(other, box)
			holdAnswer(t, name+"Open", got, e, nil, api.OK)
			got, e = r.Open(none, other)
			holdAnswer(t, name+"Open of no box", got, e, nil, api.ErrShort)
			got, e = New().Seal(none, other)
			holdAnswer(t, name+"Seal without a key", got, e, nil, api.OK)
			got, e = New().Open(none, other)
			holdAnswer(t, name+"Open without a key", got, e, nil, api.OK)
		}
		got, e := begun(key).Seal(none, b)
		holdAnswer(t, "R2: Seal without an ad", got, e, aead.Seal(key, aead.Nonce(0), nil, b), api.OK)
		got, e = begun(key).Seal(b, none)
		holdAnswer(t, "R2: Seal without a text", got, e, aead.Seal(key, aead.Nonce(0), b, nil), api.OK)
	}
}

// At Last nothing is sealed any more, however often it is asked, and nothing
// is turned; there is no way round to 0.
func TestSealWhenSpent(t *testing.T) {
	for _, key := range edgeKeys() {
		for _, s := range spentStates(key) {
			for _, n := range edgeLengths() {
				for _, b := range [][]byte{drawnText(n, 15), make([]byte, n)} {
					got, e := s.Seal(b, b)
					holdAnswer(t, "9.1: Seal at Last", got, e, nil, api.ErrSpent)
					if cap(got) != 0 {
						t.Errorf("R3: beside ErrSpent stands room for %d bytes", cap(got))
					}
					holdState(t, "9.1: behind Seal at Last", s, plain{true, key, Last})
				}
			}
		}
	}
}

// spentStates is states at Last: set there, come there by Seal and by Open.
func spentStates(key [32]byte) []*State {
	set, sealed, opened := begunAt(key, Last), begunAt(key, Last-2), begunAt(key, Last-2)
	for range 2 {
		box, _ := sealed.Seal(nil, nil)
		opened.Open(nil, box)
	}
	return []*State{set, sealed, opened}
}

// Init and SetNonce help it; Rekey does not, for the nonce stays.
func TestWhatHelpsOneThatIsSpent(t *testing.T) {
	key, text := drawnKey(16), drawnText(20, 17)
	for i := range spentStates(key) {
		s := spentStates(key)[i]
		s.Init(key)
		got, e := s.Seal(nil, text)
		holdAnswer(t, "9.1: spent, Init, Seal", got, e, aead.Seal(key, aead.Nonce(0), nil, text), api.OK)

		s = spentStates(key)[i]
		s.Init(key)
		got, e = s.Open(nil, got)
		holdAnswer(t, "9.1: spent, Init, Open", got, e, text, api.OK)

		for _, n := range edgeNonces() {
			s, r := spentStates(key)[i], spentStates(key)[i]
			s.SetNonce(n)
			r.SetNonce(n)
			box, e := s.Seal(nil, text)
			holdAnswer(t, "9.1: spent, SetNonce, Seal", box, e, aead.Seal(key, aead.Nonce(n), nil, text), api.OK)
			got, e := r.Open(nil, box)
			holdAnswer(t, "9.1: spent, SetNonce, Open", got, e, text, api.OK)
			holdState(t, "9.1: spent, SetNonce, Seal", s, plain{true, key, n + 1})
		}

		s = spentStates(key)[i]
		if e := s.Rekey(); e != api.OK {
			t.Errorf("9.1: spent, Rekey: %d", e)
		}
		got, e = s.Seal(nil, text)
		holdAnswer(t, "9.1: spent, Rekey, Seal", got, e, nil, api.ErrSpent)
		got, e = s.Open(nil, aead.Seal(nextKey(key), aead.Nonce(Last), nil, text))
		holdAnswer(t, "9.1: spent, Rekey, Open", got, e, nil, api.ErrSpent)
		holdState(t, "9.1: spent, Rekey", s, plain{true, nextKey(key), Last})
	}
}

// found is the nonces from 0 to most with which a key opens a box.
func found(key [32]byte, ad, box []byte, most uint64) []uint64 {
	var l []uint64
	for n := range most + 1 {
		if _, e := aead.Open(key, aead.Nonce(n), ad, box); e == api.OK {
			l = append(l, n)
		}
	}
	return l
}

// 9.2: whatever is done between two Seals, and no nonce is set, they are of
// two nonces, while there is one key between Inits and Rekeys. The nonces are
// asked of the boxes, not of the state.
func TestNoTwoSealsAreOfOneNonce(t *testing.T) {
	const steps = 50
	for seed := range int64(40) {
		d := rand.New(rand.NewSource(seed))
		key, text := drawnKey(seed), drawnText(10, seed)
		s, used := begun(key), map[uint64]bool{}
		for range steps {
			switch d.Intn(16) {
			case 0:
				s.Rekey()
				key, used = nextKey(key), map[uint64]bool{}
			case 1:
				key, used = drawnKey(d.Int63()), map[uint64]bool{}
				s.Init(key)
			case 2:
				s.Copy().Init(key)
			case 3:
				s.Copy().SetNonce(0)
			case 4:
				s.Open(nil, aead.Seal(key, aead.Nonce(s.Nonce()), nil, text))
			case 5, 6:
				s.Open(text, turnedAt(aead.Seal(key, aead.Nonce(s.Nonce()), text, text), d.Intn(26)))
			case 7:
				s.Open(text, text)
			default:
				box, e := s.Seal(text, text)
				l := found(key, text, box, steps)
				if e != api.OK || len(l) != 1 || used[l[0]] {
					t.Fatalf("9.2: run %d: a box of nonces %d (error %d) behind those of %v", seed, l, e, used)
				}
				used[l[0]] = true
			}
		}
	}
}

// 9.2: to the last nonce, and no further: behind it there is no box at all.
func TestNoNonceComesBackAtTheEnd(t *testing.T) {
	key, text := drawnKey(18), drawnText(10, 19)
	for from := uint64(Last - 20); from != Last; from++ {
		s, seen := begunAt(key, from), map[string]bool{}
		for range 200 {
			box, e := s.Seal(nil, text)
			if e == api.OK {
				if seen[string(box)] {
					t.Fatalf("9.2: from nonce %d on a nonce comes twice", from)
				}
				seen[string(box)] = true
			}
		}
		if len(seen) != int(Last-from) {
			t.Errorf("9.2: from nonce %d on there are %d boxes", from, len(seen))
		}
	}
}

// 9.2: a row of Seals of one text shows as many boxes.
func TestBoxesOfOneTextAreUnlike(t *testing.T) {
	s, seen := begun(drawnKey(20)), map[string]bool{}
	for range 3000 {
		box, _ := s.Seal(nil, []byte("the same text"))
		seen[string(box)] = true
	}
	if len(seen) != 3000 {
		t.Errorf("9.2: 3000 Seals have %d boxes", len(seen))
	}
}

// 9.2: Last is no text's, so no box ever shows the next key: of 32 bytes 0 it
// would.
func TestNoBoxShowsTheNextKey(t *testing.T) {
	key := drawnKey(21)
	for _, n := range append(edgeNonces(), Last) {
		box, _ := begunAt(key, n).Seal(nil, make([]byte, 32))
		if len(box) >= 32 && [32]byte(box) == nextKey(key) {
			t.Errorf("9.2: Seal of nonce %d shows the next key", n)
		}
	}
}
