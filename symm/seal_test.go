package symm

import (
	"fmt"
	"testing"

	"porthole/aead"
	"porthole/api"
	"porthole/blake"
	"porthole/cipher"
)

// Without a key a text and a box are answered themselves; they are mixed in
// all the same, and nothing else is turned.
func TestWithoutAKey(t *testing.T) {
	s := New("open")
	want := asTold(s)
	for _, n := range append(edgeLengths(), 1<<20) {
		b := drawnText(n, int64(n))
		got, e := s.Seal(b)
		holdAnswer(t, "10.1: Seal without a key", got, e, b, api.OK)
		want.hash = blake.Sum(want.hash[:], b)
		holdState(t, fmt.Sprintf("10.1: behind Seal of %d bytes without a key", n), s, want)
		got, e = s.Open(b)
		holdAnswer(t, "10.1: Open without a key", got, e, b, api.OK)
		want.hash = blake.Sum(want.hash[:], b)
		holdState(t, fmt.Sprintf("10.1: behind Open of %d bytes without a key", n), s, want)
	}
}

// So it was mixed in as by MixHash.
func TestWithoutAKeyIsMixHash(t *testing.T) {
	for _, n := range edgeLengths() {
		text := drawnText(n, 1)
		sealed, opened, told := New("x"), New("x"), New("x")
		sealed.Seal(text)
		opened.Open(text)
		told.MixHash(text)
		holdState(t, "10.1: Seal without a key, and MixHash", sealed, asTold(told))
		holdState(t, "10.1: Open without a key, and MixHash", opened, asTold(told))
	}
}

// The box is the cipher's, with h as ad; behind it h is Sum(h, box), on both
// sides, and the chain key stays.
func TestSealAndOpen(t *testing.T) {
	for _, name := range edgeNames() {
		s, r := New(name), New(name)
		s.MixKey([]byte("key"))
		r.MixKey([]byte("key"))
		want := asTold(s)
		for _, n := range edgeLengths() {
			text := drawnText(n, int64(n))
			right := aead.Seal(want.key, aead.Nonce(want.nonce), want.hash[:], text)
			box, e := s.Seal(text)
			say := fmt.Sprintf("10.1: New(%q), MixKey, %d bytes", name, n)
			holdAnswer(t, say+": Seal", box, e, right, api.OK)
			got, e := r.Open(right)
			holdAnswer(t, say+": Open", got, e, text, api.OK)
			want.hash = blake.Sum(want.hash[:], right)
			want.nonce++
			holdState(t, say+": behind Seal", s, want)
			holdState(t, say+": behind Open", r, want)
		}
	}
}

// pair is two states that were told the same.
func pair() [2]both {
	return [2]both{begun("pair"), begun("pair")}
}

// Two that are told the same stay alike, whoever of them seals, before and
// behind each MixKey.
func TestTwoStayAlike(t *testing.T) {
	two := pair()
	for i := range 120 {
		s, r := two[i/3%2], two[1-i/3%2]
		say := fmt.Sprintf("10.1: two, step %d", i)
		text := drawnText(i, int64(i))
		switch i % 5 {
		case 1:
			s.mixHash(text)
			r.mixHash(text)
		case 3:
			if i > 20 {
				s.mixKey(text)
				r.mixKey(text)
			}
		}
		box := s.seal(t, say, text)
		got, e := r.s.Open(box)
		holdAnswer(t, say+": Open", got, e, text, api.OK)
		r.p.open(box)
		holdState(t, say+": the other one", r.s, asTold(s.s))
		r.hold(t, say)
		r.split(t, say)
		if s.s.HasKey() != (i >= 23) {
			t.Errorf("%s: HasKey: %t", say, s.s.HasKey())
		}
	}
}

// Both may seal in turn without the other: one that was not told a box is of
// another hash, and opens none any more until it is.
func TestOneThatWasNotTold(t *testing.T) {
	s, r := keyed("told", "k"), keyed("told", "k")
	first := s.seal(t, "10.1: the first", []byte("first"))
	second := s.seal(t, "10.1: the second", []byte("second"))
	was := asTold(r.s)
	got, e := r.s.Open(second)
	holdAnswer(t, "10.1: the second ahead of the first", got, e, nil, api.ErrTag)
	holdState(t, "10.1: the second ahead of the first", r.s, was)
	r.open(t, "10.1: the first", first)
	r.open(t, "10.1: the second", second)
	holdState(t, "10.1: behind both", r.s, asTold(s.s))
	was = asTold(r.s)
	for _, again := range [][]byte{first, second} {
		got, e = r.s.Open(again)
		holdAnswer(t, "10.1: again", got, e, nil, api.ErrTag)
		holdState(t, "10.1: again", r.s, was)
	}
}

// To ask turns nothing, with and without a key.
func TestAskingTurnsNothing(t *testing.T) {
	for _, b := range []both{begun("ask"), keyed("ask", "k")} {
		for range 3 {
			b.hold(t, "10.1: asked again")
			b.s.Hash()
			b.s.Chain()
			b.s.HasKey()
			b.split(t, "10.1: asked again")
		}
	}
}

// It is the cipher that tells whether there is a key: one of 0s is a key.
func TestAKeyOfZeros(t *testing.T) {
	b := begun("zeros")
	b.s.Init([32]byte{})
	b.p.has = true
	b.hold(t, "10.1: a key of 0s")
	b.open(t, "10.1: a key of 0s", b.seal(t, "10.1: a key of 0s", []byte("text")))
	b.open(t, "10.1: a key of 0s", b.p.box([]byte("text")))
}

// The cipher's error is answered, h and all else stays, and what helps the
// cipher helps.
func TestWhenSpent(t *testing.T) {
	text := drawnText(20, 2)
	for _, n := range edgeLengths() {
		b := keyed("spent", "k")
		b.s.SetNonce(cipher.Last)
		b.p.nonce = cipher.Last
		was := asTold(b.s)
		right := aead.Seal(was.key, aead.Nonce(cipher.Last), was.hash[:], text)
		for range 2 {
			got, e := b.s.Seal(drawnText(n, 3))
			holdAnswer(t, "10.1: Seal at Last", got, e, nil, api.ErrSpent)
			holdState(t, "10.1: behind Seal at Last", b.s, was)
			for _, box := range [][]byte{right, turnedAt(right, 0), right[:15], nil} {
				got, e = b.s.Open(box)
				holdAnswer(t, "10.1: Open at Last", got, e, nil, api.ErrSpent)
				holdState(t, "10.1: behind Open at Last", b.s, was)
			}
		}
		b.split(t, "10.1: at Last")
		b.mixKey(text)
		b.seal(t, "10.1: spent, MixKey", text)
	}
}

// The last nonce but one is good, and then none is.
func TestUpToLast(t *testing.T) {
	s, r := keyed("spent", "k"), keyed("spent", "k")
	for _, b := range []both{s, r} {
		b.s.SetNonce(cipher.Last - 3)
		b.p.nonce = cipher.Last - 3
	}
	for i := range 5 {
		box := s.seal(t, fmt.Sprintf("10.1: box %d up to Last", i), []byte("text"))
		r.open(t, fmt.Sprintf("10.1: box %d up to Last", i), box)
	}
	holdState(t, "10.1: up to Last", r.s, asTold(s.s))
}

func TestAMegabyte(t *testing.T) {
	big := drawnText(1<<20, 4)
	s, r := keyed("big", "k"), keyed("big", "k")
	for range 2 {
		box := s.seal(t, "10.1: a megabyte", big)
		r.open(t, "10.1: a megabyte", box)
	}
	holdState(t, "10.1: behind megabytes", r.s, asTold(s.s))
}

// Many in a row: each is of the hash and of the nonce behind the one ahead.
func TestManyInARow(t *testing.T) {
	s, r := keyed("many", "k"), keyed("many", "k")
	for i := range 3000 {
		say := fmt.Sprintf("10.1: box %d of a row", i)
		r.open(t, say, s.seal(t, say, drawnText(i%70, 5)))
	}
	holdState(t, "10.1: behind a row", r.s, asTold(s.s))
}
