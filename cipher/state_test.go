package cipher

import (
	"fmt"
	"sync"
	"testing"

	"porthole/aead"
	"porthole/api"
)

func TestLast(t *testing.T) {
	if n := uint64(Last); n != 0xffffffffffffffff {
		t.Errorf("9.1: Last is %d", n)
	}
}

func TestNewHasNoKey(t *testing.T) {
	for range 3 {
		holdState(t, "9.1: New", New(), plain{})
	}
}

// Without a key a text and a box are answered themselves, boxes that are too
// short for one among them, and nothing is turned.
func TestWithoutAKey(t *testing.T) {
	s := New()
	for _, ads := range edgeLengths() {
		for _, n := range edgeLengths() {
			ad, b := drawnText(ads, int64(ads)), drawnText(n, int64(n))
			got, e := s.Seal(ad, b)
			holdAnswer(t, "9.1: Seal without a key", got, e, b, api.OK)
			holdState(t, "9.1: behind Seal without a key", s, plain{})
			got, e = s.Open(ad, b)
			holdAnswer(t, "9.1: Open without a key", got, e, b, api.OK)
			holdState(t, "9.1: behind Open without a key", s, plain{})
			if e := s.Rekey(); e != api.ErrState {
				t.Errorf("9.1: Rekey without a key: %d, not ErrState", e)
			}
			holdState(t, "9.1: behind Rekey without a key", s, plain{})
		}
	}
}

// A nonce may be set without a key, too; no nonce is spent there, Last neither.
func TestANonceWithoutAKey(t *testing.T) {
	b := drawnText(40, 1)
	for _, n := range append(edgeNonces(), Last) {
		s := New()
		s.SetNonce(n)
		name := fmt.Sprintf("9.1: without a key, at nonce %d", n)
		holdState(t, name, s, plain{nonce: n})
		got, e := s.Seal(b, b)
		holdAnswer(t, name+": Seal", got, e, b, api.OK)
		got, e = s.Open(b, b)
		holdAnswer(t, name+": Open", got, e, b, api.OK)
		if e := s.Rekey(); e != api.ErrState {
			t.Errorf("%s: Rekey: %d, not ErrState", name, e)
		}
		holdState(t, name+", later", s, plain{nonce: n})
		s.Init(drawnKey(2))
		holdState(t, name+", behind Init", s, plain{true, drawnKey(2), 0})
	}
}

// A key of 0s is a key.
func TestInit(t *testing.T) {
	for _, key := range edgeKeys() {
		s := New()
		s.Init(key)
		name := fmt.Sprintf("9.1: Init(%x)", key)
		holdState(t, name, s, plain{true, key, 0})
		got, e := s.Seal(nil, []byte("text"))
		holdAnswer(t, name+": Seal", got, e, aead.Seal(key, aead.Nonce(0), nil, []byte("text")), api.OK)
		if e := s.Rekey(); e != api.OK {
			t.Errorf("%s: Rekey: %d", name, e)
		}
	}
}

// Whatever was done, behind Init anew it is as a state that has just begun,
// with another key and with the one that it had.
func TestInitAnew(t *testing.T) {
	text := drawnText(30, 3)
	for name, spend := range map[string]func(s *State){
		"nothing":                func(s *State) {},
		"Seal":                   func(s *State) { s.Seal(nil, text); s.Seal(nil, text) },
		"Open":                   func(s *State) { s.Open(nil, aead.Seal(s.Key(), aead.Nonce(0), nil, text)) },
		"Open of what is none":   func(s *State) { s.Open(nil, text) },
		"Rekey":                  func(s *State) { s.Rekey() },
		"SetNonce":               func(s *State) { s.SetNonce(1 << 40) },
		"SetNonce(Last)":         func(s *State) { s.SetNonce(Last) },
		"SetNonce(Last), Rekey":  func(s *State) { s.SetNonce(Last); s.Rekey() },
		"SetNonce(Last), Seal":   func(s *State) { s.SetNonce(Last); s.Seal(nil, text) },
		"SetNonce(Last-1), Seal": func(s *State) { s.SetNonce(Last - 1); s.Seal(nil, text) },
	} {
		for _, key := range append(edgeKeys(), drawnKey(4)) {
			s := begun(drawnKey(4))
			spend(s)
			s.Init(key)
			holdState(t, "9.1: Init behind "+name, s, plain{true, key, 0})
			p := plain{true, key, 0}
			for range 3 {
				want, _ := p.seal(text, text)
				got, e := s.Seal(text, text)
				holdAnswer(t, "9.1: Seal behind Init behind "+name, got, e, want, api.OK)
			}
		}
	}
}

// A nonce that was set is the one of the next box; the key stays.
func TestSetNonce(t *testing.T) {
	key, text := drawnKey(5), drawnText(20, 6)
	s, r := begun(key), begun(key)
	for _, n := range append(edgeNonces(), 7, 3, 3, 0) {
		s.SetNonce(n)
		r.SetNonce(n)
		name := fmt.Sprintf("9.1: SetNonce(%d)", n)
		holdState(t, name, s, plain{true, key, n})
		box, e := s.Seal(nil, text)
		holdAnswer(t, name+": Seal", box, e, aead.Seal(key, aead.Nonce(n), nil, text), api.OK)
		got, e := r.Open(nil, box)
		holdAnswer(t, name+": Open", got, e, text, api.OK)
		holdState(t, name+", behind Seal", s, plain{true, key, n + 1})
		holdState(t, name+", behind Open", r, plain{true, key, n + 1})
	}
	s.SetNonce(Last)
	holdState(t, "9.1: SetNonce(Last)", s, plain{true, key, Last})
}

// To ask turns nothing.
func TestAskingTurnsNothing(t *testing.T) {
	key := drawnKey(7)
	for _, want := range []plain{{}, {nonce: 9}, {true, key, 0}, {true, key, 9}, {true, key, Last}} {
		s := New()
		if want.has {
			s.Init(want.key)
		}
		s.SetNonce(want.nonce)
		for range 3 {
			holdState(t, "9.1: asked again", s, want)
			s.Copy()
		}
	}
}

// R7, R4: states know nothing of one another, whether they are told one behind
// the other or beside one another.
func TestStatesKnowNothingOfOneAnother(t *testing.T) {
	const n = 40
	tell := func(i int) [][]byte {
		s := begun(drawnKey(int64(i)))
		var boxes [][]byte
		for k := range 40 {
			if k%(i+2) == i {
				s.Rekey()
			}
			box, _ := s.Seal(drawnText(i, 1), drawnText(k, 2))
			boxes = append(boxes, box)
		}
		return boxes
	}
	var first, again [n][][]byte
	for i := range n {
		first[i] = tell(i)
	}
	var all sync.WaitGroup
	for i := range n {
		all.Go(func() { again[n-1-i] = tell(n - 1 - i) })
	}
	all.Wait()
	for i := range n {
		for k := range first[i] {
			holdAnswer(t, fmt.Sprintf("R4: box %d of state %d, later", k, i), again[i][k], api.OK, first[i][k], api.OK)
		}
	}
}

// R7: of two states, told in turn, neither turns the other, though they have
// one key.
func TestStatesInTurn(t *testing.T) {
	key, text := drawnKey(8), drawnText(50, 9)
	s, r := begun(key), begun(key)
	for i := range uint64(50) {
		want := aead.Seal(key, aead.Nonce(i), text, text)
		got, e := s.Seal(text, text)
		holdAnswer(t, "R7: Seal of the first", got, e, want, api.OK)
		holdState(t, "R7: the second", r, plain{true, key, i})
		got, e = r.Seal(text, text)
		holdAnswer(t, "R7: Seal of the second", got, e, want, api.OK)
	}
	r.Rekey()
	r.SetNonce(Last)
	holdState(t, "R7: the first", s, plain{true, key, 50})
	s.Init(drawnKey(10))
	holdState(t, "R7: the second", r, plain{true, nextKey(key), Last})
}
