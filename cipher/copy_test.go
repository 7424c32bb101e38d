package cipher

import (
	"testing"

	"porthole/api"
)

// copied is a state, of which a copy is made: without a key, begun, on its
// way, behind Rekey, and spent.
func copied() map[string]func() *State {
	return map[string]func() *State{
		"without a key":            New,
		"without a key, nonce 7":   func() *State { s := New(); s.SetNonce(7); return s },
		"begun":                    func() *State { return begun(drawnKey(1)) },
		"on its way":               func() *State { s := begun(drawnKey(1)); s.Seal(nil, nil); return s },
		"begun with a key of 0s":   func() *State { return begun([32]byte{}) },
		"behind Rekey":             func() *State { s := begunAt(drawnKey(1), 1<<32); s.Rekey(); return s },
		"one ahead of being spent": func() *State { return begunAt(drawnKey(1), Last-1) },
		"spent":                    func() *State { return begunAt(drawnKey(1), Last) },
	}
}

// asTold is what a state is, for plain to go on with.
func asTold(s *State) plain {
	return plain{s.Has(), s.Key(), s.Nonce()}
}

// dueBox is the box that a state takes next; the plain one is a copy of its
// own, and goes on nowhere.
func dueBox(p plain, ad, text []byte) []byte {
	box, _ := p.seal(ad, text)
	return box
}

// It goes on as the state would have.
func TestACopyGoesOn(t *testing.T) {
	ad, text := drawnText(9, 2), drawnText(30, 3)
	for name, begin := range copied() {
		s := begin()
		want := asTold(begin())
		c := s.Copy()
		if c == nil || c == s {
			t.Fatalf("9.1: Copy of one %s: no other one", name)
		}
		holdState(t, "9.1: a Copy of one "+name, c, want)
		for range 3 {
			box, wantE := want.seal(ad, text)
			got, e := c.Seal(ad, text)
			holdAnswer(t, "9.1: Seal of a Copy of one "+name, got, e, box, wantE)
			box = dueBox(want, ad, text)
			opened, wantE := want.open(ad, box)
			got, e = c.Open(ad, box)
			holdAnswer(t, "9.1: Open of a Copy of one "+name, got, e, opened, wantE)
			if e, wantE := c.Rekey(), want.rekey(); e != wantE {
				t.Errorf("9.1: Rekey of a Copy of one %s: %d, not %d", name, e, wantE)
			}
			holdState(t, "9.1: on from a Copy of one "+name, c, want)
		}
	}
}

// doings is all that turns a state.
func doings() map[string]func(s *State) {
	return map[string]func(s *State){
		"Seal":     func(s *State) { s.Seal(nil, drawnText(5, 4)) },
		"Open":     func(s *State) { s.Open(nil, dueBox(asTold(s), nil, drawnText(5, 4))) },
		"Rekey":    func(s *State) { s.Rekey() },
		"SetNonce": func(s *State) { s.SetNonce(1234) },
		"Init":     func(s *State) { s.Init(drawnKey(5)) },
	}
}

// Neither turns the other, nor does a copy of the copy.
func TestACopyIsApart(t *testing.T) {
	for name, begin := range copied() {
		for what, do := range doings() {
			want := asTold(begin())
			s := begin()
			c := s.Copy()
			d := c.Copy()
			do(s)
			holdState(t, "9.1: a Copy of one "+name+", which is told "+what, c, want)
			holdState(t, "9.1: a Copy of a Copy of one "+name+", which is told "+what, d, want)

			s = begin()
			c = s.Copy()
			do(c)
			holdState(t, "9.1: one "+name+", whose Copy is told "+what, s, want)
			holdState(t, "9.1: a second Copy of one "+name, s.Copy(), want)
		}
	}
}

// A copy of the one that seals opens, as one of the one that opens would, and
// both copies may be of one state.
func TestTwoCopiesOfOneState(t *testing.T) {
	s := begunAt(drawnKey(6), 77)
	one, two := s.Copy(), s.Copy()
	for i := range 40 {
		ad, text := drawnText(i, 7), drawnText(2*i, 8)
		box, e := one.Seal(ad, text)
		if e != api.OK {
			t.Fatalf("9.1: Seal of a Copy: %d", e)
		}
		got, e := two.Open(ad, box)
		holdAnswer(t, "9.1: Open of the other Copy", got, e, text, api.OK)
		if i%16 == 15 {
			one.Rekey()
			two.Rekey()
		}
	}
	holdState(t, "9.1: the state itself", s, plain{true, drawnKey(6), 77})
}
