package symm

import (
	"fmt"
	"testing"

	"porthole/aead"
	"porthole/api"
	"porthole/cipher"
	"porthole/kdf"
)

// splits is states of many kinds: new, with a key, on their way, spent.
func splits(t *testing.T) map[string]both {
	t.Helper()
	spent := keyed("spent", "k")
	spent.s.SetNonce(cipher.Last)
	spent.p.nonce = cipher.Last
	said := begun("said")
	said.mixHash([]byte("said"))
	twice := keyed("twice", "k")
	twice.mixKey(nil)
	return map[string]both{
		"new": begun("new"), "said": said, "keyed": keyed("keyed", "k"),
		"twice": twice, "on its way": onItsWay(t), "spent": spent,
	}
}

// Two ciphers with the first and the second of Derive(chain, nothing, 2).
func TestSplit(t *testing.T) {
	for name, b := range splits(t) {
		say := "10.1: Split of one " + name
		a, c := b.s.Split()
		two := kdf.Derive(b.s.Chain(), nil, 2)
		if a == nil || c == nil || a == c {
			t.Fatalf("%s: not two ciphers", say)
		}
		if a.Key() != two[0] || c.Key() != two[1] || !a.Has() || !c.Has() || a.Nonce() != 0 || c.Nonce() != 0 {
			t.Errorf("%s: %x (%t) %d and %x (%t) %d, not %x and nonce 0", say,
				a.Key(), a.Has(), a.Nonce(), c.Key(), c.Has(), c.Nonce(), two)
		}
		for n := range uint64(4) {
			for i, d := range []*cipher.State{a, c} {
				box, e := d.Seal([]byte("ad"), []byte("text"))
				holdAnswer(t, say+": Seal", box, e, aead.Seal(two[i], aead.Nonce(n), []byte("ad"), []byte("text")), api.OK)
			}
		}
		b.hold(t, say+": behind all")
	}
}

// They are new ones each time: what is done with them turns neither the other
// one, nor the state, nor those that come behind.
func TestSplitsAreApart(t *testing.T) {
	for name, b := range splits(t) {
		say := "10.1: Split of one " + name
		first, second := b.s.Split()
		for i, c := range []*cipher.State{first, second} {
			other := []*cipher.State{second, first}[i]
			key, nonce := other.Key(), other.Nonce()
			c.Seal(nil, []byte("text"))
			c.Rekey()
			c.SetNonce(99)
			c.Init([32]byte{byte(i)})
			if other.Key() != key || other.Nonce() != nonce || !other.Has() {
				t.Errorf("%s: the other one is turned", say)
			}
			b.split(t, say+", again")
		}
	}
}

// The state goes on as before: with its key, its nonce, its hash; and what
// comes behind turns nothing of those that were answered.
func TestTheStateGoesOn(t *testing.T) {
	for name, b := range splits(t) {
		say := "10.1: behind Split of one " + name
		one, two := b.s.Split()
		want := b.p.split()
		for i := range 3 {
			b.open(t, say, b.p.box(drawnText(i, 1)))
			b.seal(t, say, drawnText(i, 2))
			b.split(t, say)
			b.mixHash(drawnText(i, 3))
			b.mixKey(drawnText(i, 4))
			b.hold(t, say)
		}
		if one.Key() != want[0] || two.Key() != want[1] || one.Nonce() != 0 || two.Nonce() != 0 {
			t.Errorf("%s: the ciphers that were answered are turned", say)
		}
	}
}

// Split hangs on the chain key alone: neither on the hash nor on the nonce.
func TestSplitHangsOnTheChainKey(t *testing.T) {
	b := keyed("chain", "k")
	want := b.p.split()
	for i := range 20 {
		b.seal(t, "10.1: chain", drawnText(i, 5))
		b.mixHash(drawnText(i, 6))
		one, two := b.s.Split()
		if one.Key() != want[0] || two.Key() != want[1] {
			t.Errorf("10.1: Split, behind %d Seals: %x %x, not %x", i+1, one.Key(), two.Key(), want)
		}
	}
	b.mixKey(nil)
	one, two := b.s.Split()
	if one.Key() == want[0] || two.Key() == want[1] || one.Key() == two.Key() {
		t.Error("10.1: Split behind MixKey: the keys ahead, or one key twice")
	}
}

// What one seals with its first the other opens with its first, so with the
// second, and not the other way round.
func TestTwoSplit(t *testing.T) {
	s, r := keyed("split", "k"), keyed("split", "k")
	r.open(t, "10.1: split", s.seal(t, "10.1: split", []byte("last")))
	mine, yours := s.s.Split()
	theirs, ours := r.s.Split()
	for i := range 40 {
		text := drawnText(i, 7)
		box, _ := mine.Seal(nil, text)
		got, e := ours.Copy().Open(nil, box)
		holdAnswer(t, "10.1: the first, with the second", got, e, nil, api.ErrTag)
		got, e = theirs.Open(nil, box)
		holdAnswer(t, fmt.Sprintf("10.1: the first, box %d", i), got, e, text, api.OK)
		box, _ = ours.Seal(text, text)
		got, e = yours.Open(text, box)
		holdAnswer(t, fmt.Sprintf("10.1: the second, box %d", i), got, e, text, api.OK)
		if i%16 == 15 {
			mine.Rekey()
			theirs.Rekey()
		}
	}
}
