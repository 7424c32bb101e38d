package symm

import (
	"fmt"
	"testing"

	"porthole/aead"
	"porthole/blake"
	"porthole/cipher"
	"porthole/kdf"
)

// inputs is some of each length that the chapter's sentences may trip at.
func inputs() [][]byte {
	l := [][]byte{nil, {}, {0}, {1}, {0xff}, make([]byte, 32), drawnText(1<<16+1, 1)}
	for _, n := range edgeLengths() {
		l = append(l, drawnText(n, int64(n)))
	}
	return l
}

// The first of Derive is the chain key, the second the key; the hash stays.
func TestMixKey(t *testing.T) {
	for _, name := range edgeNames() {
		for _, input := range inputs() {
			s := New(name)
			hash, two := s.Hash(), kdf.Derive(s.Hash(), input, 2)
			s.MixKey(input)
			say := fmt.Sprintf("10.1: New(%q), MixKey of %d bytes", name, len(input))
			holdState(t, say, s, plain{hash, two[0], true, two[1], 0})
		}
	}
}

// One behind the other: each is of the chain key ahead, whatever lies between.
func TestMixKeyAgain(t *testing.T) {
	b := begun("again")
	for i, input := range inputs() {
		chain := b.s.Chain()
		b.mixKey(input)
		say := fmt.Sprintf("10.1: MixKey %d", i)
		b.hold(t, say)
		holdSum(t, say+": the chain key", b.s.Chain(), kdf.Derive(chain, input, 2)[0])
		if i%2 == 0 {
			b.seal(t, say, input)
			b.mixHash(input)
			holdSum(t, say+": the chain key, behind Seal and MixHash", b.s.Chain(), kdf.Derive(chain, input, 2)[0])
		}
	}
}

// The nonce is 0 anew, whatever the key ahead has sealed and opened.
func TestMixKeyBeginsTheNonce(t *testing.T) {
	text := drawnText(30, 3)
	for _, nonces := range []uint64{0, 1, 2, 17, 1 << 32, cipher.Last - 1, cipher.Last} {
		b := keyed("nonce", "one")
		b.s.SetNonce(nonces)
		b.p.nonce = nonces
		b.seal(t, fmt.Sprintf("10.1: at nonce %d", nonces), text)
		b.mixKey([]byte("two"))
		say := fmt.Sprintf("10.1: MixKey at nonce %d", nonces)
		b.hold(t, say)
		hash, key := b.s.Hash(), b.p.key
		box, e := b.s.Seal(text)
		holdAnswer(t, say+": Seal", box, e, aead.Seal(key, aead.Nonce(0), hash[:], text), 0)
	}
}

// The same input makes other keys the second time, and no key comes back.
func TestNoKeyComesBack(t *testing.T) {
	s, seen := New("back"), map[[32]byte]int{}
	for i := range 2000 {
		s.MixKey(nil)
		for _, key := range [][32]byte{s.Key(), s.Chain()} {
			if at, ok := seen[key]; ok {
				t.Fatalf("10.1: MixKey %d makes a key of MixKey %d", i, at)
			}
			seen[key] = i
		}
	}
}

// h = Sum(h, b); the chain key, the key and the nonce stay.
func TestMixHash(t *testing.T) {
	for _, keys := range []int{0, 1, 2} {
		for _, said := range inputs() {
			s := New("said")
			for k := range keys {
				s.MixKey([]byte{byte(k)})
				s.Seal(drawnText(k, 4))
			}
			want := asTold(s)
			want.hash = blake.Sum(want.hash[:], said)
			s.MixHash(said)
			say := fmt.Sprintf("10.1: behind %d keys, MixHash of %d bytes", keys, len(said))
			holdState(t, say, s, want)
		}
	}
}

// Also of nothing it is another hash; and where a text is cut counts.
func TestMixHashOfPieces(t *testing.T) {
	text := drawnText(200, 5)
	whole := New("pieces")
	whole.MixHash(text)
	for at := range len(text) + 1 {
		b := begun("pieces")
		b.mixHash(text[:at])
		b.mixHash(text[at:])
		b.hold(t, fmt.Sprintf("10.1: MixHash of %d bytes, and of the others", at))
		if b.s.Hash() == whole.Hash() {
			t.Errorf("10.1: MixHash of a text cut at %d is as of the whole one", at)
		}
	}
	seen := map[[32]byte]int{}
	s := New("nothing")
	for i := range 500 {
		if at, ok := seen[s.Hash()]; ok {
			t.Fatalf("10.1: behind %d MixHash of nothing the hash is that behind %d", i, at)
		}
		seen[s.Hash()] = i
		s.MixHash(nil)
	}
}

func TestMixOfAMegabyte(t *testing.T) {
	big := drawnText(1<<20, 6)
	b := begun("big")
	for range 2 {
		b.mixHash(big)
		b.hold(t, "10.1: MixHash of a megabyte")
		b.mixKey(big)
		b.hold(t, "10.1: MixKey of a megabyte")
	}
}

// R2: nil, an empty list and one with room behind it are the same.
func TestNoneAndEmpty(t *testing.T) {
	for i, none := range [][]byte{nil, {}, make([]byte, 0, 64), lent(nil)} {
		b := begun("none")
		say := fmt.Sprintf("R2: no bytes, told in way %d", i)
		b.open(t, say, none)
		b.seal(t, say, none)
		b.mixHash(none)
		b.hold(t, say+": MixHash")
		b.mixKey(none)
		b.hold(t, say+": MixKey")
		b.open(t, say, none)
		b.seal(t, say, none)
		b.split(t, say)

		want := begun("none")
		want.p.open(nil)
		want.p.seal(nil)
		want.p.mixHash(nil)
		want.p.mixKey(nil)
		want.p.seal(nil)
		holdState(t, say, b.s, *want.p)
	}
}
