package symm

import (
	"bytes"
	"fmt"
	"sync"
	"testing"

	"porthole/api"
)

const (
	spare = 0xa5
	room  = 130
)

// lent is text with spare room behind it that holds known bytes.
func lent(text []byte) []byte {
	return withRoom(text)[:len(text)]
}

// withRoom is what lies at a lent list, its spare room included.
func withRoom(text []byte) []byte {
	return append(bytes.Clone(text), bytes.Repeat([]byte{spare}, room)...)
}

// untouched tells whether a lent list and its spare room are as they were.
func untouched(b, text []byte) bool {
	return bytes.Equal(b[:len(text)+room], withRoom(text))
}

// overwrite turns every byte of b, its spare room included.
func overwrite(b []byte) {
	b = b[:cap(b)]
	for i := range b {
		b[i] ^= 0xff
	}
}

// doings is all that takes a list, on a state with a key and without.
func doings() map[string]func(s *State, b []byte) ([]byte, api.Errno) {
	return map[string]func(s *State, b []byte) ([]byte, api.Errno){
		"MixKey":  func(s *State, b []byte) ([]byte, api.Errno) { s.MixKey(b); return nil, api.OK },
		"MixHash": func(s *State, b []byte) ([]byte, api.Errno) { s.MixHash(b); return nil, api.OK },
		"Seal":    (*State).Seal,
		"Open":    (*State).Open,
	}
}

// What is handed in stays as it was, with the room behind it, and what lies
// there is not seen; what is answered shares no memory with it, nor with
// another answer, nor with the state.
func TestWhatIsHandedInStays(t *testing.T) {
	for _, n := range append(edgeLengths(), 5000) {
		for _, begin := range []func() both{
			func() both { return begun("new") }, func() both { return keyed("keyed", "k") },
		} {
			text := drawnText(n, 1)
			for name, do := range doings() {
				for _, b := range [][]byte{text, begin().p.box(text)} {
					holdMemory(t, fmt.Sprintf("R2: %s of %d bytes", name, len(b)), begin, do, b)
				}
			}
		}
	}
}

func holdMemory(t *testing.T, name string, begin func() both, do func(s *State, b []byte) ([]byte, api.Errno), b []byte) {
	t.Helper()
	given, s, again := lent(b), begin().s, begin().s
	want, wantE := do(again, bytes.Clone(b))
	got, e := do(s, given)
	holdAnswer(t, name+", lent", got, e, want, wantE)
	holdState(t, name+", lent", s, asTold(again))
	if !untouched(given, b) {
		t.Errorf("%s has turned what was handed in, or the room behind it", name)
	}
	overwrite(given)
	holdAnswer(t, name+", when what was handed in is turned", got, e, want, wantE)
	holdState(t, name+", when what was handed in is turned", s, asTold(again))
	overwrite(given)
	overwrite(got)
	holdState(t, name+", when what was answered is turned", s, asTold(again))
	if !untouched(given, b) {
		t.Errorf("%s answers what was handed in", name)
	}
}

// One piece of memory may hold all that a state is told.
func TestNothingIsKept(t *testing.T) {
	s, r, p := New("kept"), New("kept"), plainNew("kept")
	memory := make([]byte, 50)
	for i := range 100 {
		copy(memory, drawnText(50, int64(i)))
		if i%7 == 3 {
			s.MixKey(memory)
			r.MixKey(memory)
			p.mixKey(drawnText(50, int64(i)))
		}
		s.MixHash(memory)
		r.MixHash(memory)
		p.mixHash(drawnText(50, int64(i)))
		want, _ := p.seal(drawnText(50, int64(i)))
		box, e := s.Seal(memory)
		overwrite(memory)
		holdAnswer(t, fmt.Sprintf("R2: box %d, of one piece of memory", i), box, e, want, api.OK)
		got, e := r.Open(box)
		overwrite(box)
		holdAnswer(t, fmt.Sprintf("R2: text %d, of one piece of memory", i), got, e, drawnText(50, int64(i)), api.OK)
		overwrite(got)
		holdState(t, "R2: the one that seals", s, *p)
		holdState(t, "R2: the one that opens", r, *p)
	}
}

// Boxes and texts that were answered stay, whatever the state is told.
func TestAnswersStay(t *testing.T) {
	for _, b := range []both{begun("stay"), keyed("stay", "k")} {
		r := begun("stay")
		if b.p.has {
			r = keyed("stay", "k")
		}
		box, _ := b.s.Seal(drawnText(40, 2))
		text, _ := r.s.Open(box)
		kept := bytes.Clone(box)
		for i := range 20 {
			next, _ := b.s.Seal(drawnText(40, 3))
			r.s.Open(next)
			b.s.MixHash(drawnText(i, 4))
			r.s.MixHash(drawnText(i, 4))
			if i > 10 {
				b.s.MixKey(nil)
				r.s.MixKey(nil)
			}
		}
		holdAnswer(t, "R2: a box, later", box, api.OK, kept, api.OK)
		holdAnswer(t, "R2: a text, later", text, api.OK, drawnText(40, 2), api.OK)
	}
}

// What Hash and Chain answered is its owner's.
func TestSumsAreTheirOwners(t *testing.T) {
	b := keyed("sums", "k")
	hash, chain := b.s.Hash(), b.s.Chain()
	was := *b.p
	overwrite(hash[:])
	overwrite(chain[:])
	b.hold(t, "R2: Hash and Chain that are turned")
	hash, chain = b.s.Hash(), b.s.Chain()
	b.mixHash(nil)
	b.mixKey(nil)
	holdSum(t, "R2: a Hash, later", hash, was.hash)
	holdSum(t, "R2: a Chain, later", chain, was.chain)
}

// A state's own hash and chain key may be handed in.
func TestItsOwnSums(t *testing.T) {
	b := keyed("own", "k")
	for range 5 {
		hash, chain := b.s.Hash(), b.s.Chain()
		b.mixHash(hash[:])
		b.mixKey(chain[:])
		b.seal(t, "R2: its own hash", hash[:])
		b.hold(t, "R2: its own sums")
	}
}

// told is all that a state of that number answers, one behind the other.
func told(i int) []byte {
	s := New(drawnName(i))
	var all []byte
	for k := range 30 {
		if k%(i+2) == i {
			s.MixKey(drawnText(k, 5))
		}
		s.MixHash(drawnText(i, 6))
		box, _ := s.Seal(drawnText(k, 7))
		hash, chain := s.Hash(), s.Chain()
		all = append(append(append(all, box...), hash[:]...), chain[:]...)
		one, two := s.Split()
		first, second := one.Key(), two.Key()
		all = append(append(all, first[:]...), second[:]...)
	}
	return all
}

// R7, R4: states know nothing of one another, whether they are told one behind
// the other or beside one another.
func TestStatesKnowNothingOfOneAnother(t *testing.T) {
	const n = 40
	var first, again [n][]byte
	for i := range n {
		first[i] = told(i)
	}
	var all sync.WaitGroup
	for i := range n {
		all.Go(func() { again[n-1-i] = told(n - 1 - i) })
	}
	all.Wait()
	for i := range n {
		holdAnswer(t, fmt.Sprintf("R4: state %d, later", i), again[i], api.OK, first[i], api.OK)
	}
}

// R7: of two states with one name and one key, told in turn, neither turns the
// other.
func TestStatesInTurn(t *testing.T) {
	two := pair()
	for i := range 60 {
		b, was := two[i%2], asTold(two[1-i%2].s)
		b.seal(t, "R7: in turn", drawnText(i, 8))
		if i%5 < 2 {
			b.mixHash(drawnText(i, 9))
			b.mixKey(drawnText(i, 10))
		}
		holdState(t, "R7: the other one", two[1-i%2].s, was)
	}
}
